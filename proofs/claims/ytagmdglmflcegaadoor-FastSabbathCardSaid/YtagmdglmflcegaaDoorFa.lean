/- Layer 20: the fasts of a year, and the days that are moved. -/
import Derived.Test.YtagmdglmflcegaaDoorFaM
namespace Go.Proofs.YtagmdglmflcegaaDoor
open Go.ChangeShapes Go.WideShapes Go.ChangeAt Go.RowKit Go.Lib Go.Sort Go.Shelf
set_option linter.unusedVariables false
set_option maxRecDepth 100000
namespace Fa
def rows : List (Int × Int × Int) := [(2, 1, 3), (10, 4, 10), (13, 6, 13), (16, 7, 14), (19, 7, 27), (21, 8, 5), (24, 8, 28), (26, 10, 17), (27, 11, 9)]
def row (k : Nat) : Int × Int × Int := rows.getD k (0, 0, 0)
def rowCells (r : Int × Int × Int) : List Value := [.int .i64 r.1, .int .i64 r.2.1, .int .i64 r.2.2]
def cells : List Value := rows.flatMap rowCells
def arr : Array Value := cells.toArray
theorem arr_size : arr.size = 27 := by kernel_rfl
set_option maxRecDepth 100000 in
theorem index (k : Nat) (hk : k < 9) : ∀ w : World, (Instr.index 79 (.agg arr) (.int .i64 (k : Int))).run Tryd.prog w = .ok (.agg (rowCells (row k)).toArray) w := by
  rcases (show k = 0 ∨ k = 1 ∨ k = 2 ∨ k = 3 ∨ k = 4 ∨ k = 5 ∨ k = 6 ∨ k = 7 ∨ k = 8 by omega) with rfl | rfl | rfl | rfl | rfl | rfl | rfl | rfl | rfl
  all_goals exact fun _ => by kernel_rfl
attribute [irreducible] arr
/-- A kind's day, and that of the fallen; the document writes that one ahead. -/
def evs (sw : Bool) (kd e : Int) : List (Int × Int) := if kd = 21 then (if sw then [(20, e - 1), (21, e)] else [(21, e), (20, e - 1)]) else [(kd, e)]
def rowEv (sw : Bool) (dv : Int → Int → Int) (r : Int × Int × Int) : List (Int × Int) := evs sw r.1 (dv r.2.1 r.2.2 + mvd r.1 (dv r.2.1 r.2.2 % 7))
def all (sw : Bool) (dv : Int → Int → Int) : List (Int × Int) := rows.flatMap (rowEv sw dv)
def upto (dv : Int → Int → Int) (k : Nat) : List (Int × Int) := (rows.take k).flatMap (rowEv false dv)
theorem row_get (k : Nat) (hk : k < 9) : rows[k]? = some (row k) := by
  have : k < rows.length := hk
  rw [List.getElem?_eq_getElem this]
  unfold row
  rw [List.getD_eq_getElem?_getD, List.getElem?_eq_getElem this]
  rfl
theorem upto_next (dv : Int → Int → Int) (k : Nat) (hk : k < 9) : upto dv (k + 1) = upto dv k ++ rowEv false dv (row k) := by
  unfold upto
  rw [List.take_add_one, row_get k hk, List.flatMap_append]
  simp
end Fa
set_option maxHeartbeats 8000000 in
theorem fast_Of_ok (y : Int) (w : World) (hy1 : 1 ≤ y) (hy2 : y ≤ 9999) (hT : Tab w 3 kevCells) (hL : Tab w 2 lenCells) (hF : Tab w 1 Fa.cells)
    (HD : Hid (∀ k, k < 9 → D10.dateE y (Fa.row k).2.1 false (Fa.row k).2.2 = 0 ∧ -2000000 ≤ D10.dayV y (Fa.row k).2.1 false (Fa.row k).2.2 ∧ D10.dayV y (Fa.row k).2.1 false (Fa.row k).2.2 ≤ 3000000)) :
    Calls Tryd.prog 23 #[.int .i64 y] w fun e w' => ∃ v, e = .returned (.tuple #[v, .int .i64 0]) ∧ Ev.Own w' w.heap.size v (Ev.sort (Fa.upto (fun n d => D10.dayV y n false d) 9)) ∧ Below w.heap.size w w' := by
  obtain ⟨i0, ih, iz0, iz1, iz2⟩ := info_parts A_infoEvent
  obtain ⟨t, hF⟩ := hF
  have hF2 : w.heap[1]? = some (.cells Fa.arr t (0, 0)) := by unfold Fa.arr; exact hF
  have HT := Lib.hid hF2
  have HZ := Lib.hid (show (Tryd.prog.info? 79).map (·.size) = some Fa.arr.size by rw [Fa.arr_size]; kernel_rfl)
  have HC := Lib.hid (fun (n d : Int) (w : World) hT hL => heb_ToDay y n false d w ⟨by omega, by omega⟩ hT hL)
  clear hF hF2
  go_enter Tryd.func23, Tryd.ntmps23
  go_wp2_with (refine wpList_load_row rfl 79 _ rfl 1 rfl t Fa.arr (0, 0) _ HT.out Tryd.underlying79 rfl HZ.out ?_)
  go_loopw [4, 16] (fun v i wr => ∃ (k : Nat) (S : List (Int × Int)), k ≤ 9 ∧ i = .int .i64 (k : Int) ∧ Hid (S = Fa.upto (fun n d => D10.dayV y n false d) k) ∧ S.length ≤ 2 * k ∧ Ev.Own wr w.heap.size v S ∧ Below w.heap.size w wr) (fun _ i _ => 9 - (intOf i).toNat)
  case atStart => exact ⟨0, [], by omega, rfl, Lib.hid rfl, by simp, Ev.Own.nil _ _, Below.refl _ _⟩
  case round =>
    obtain ⟨k, S, hk, rfl, HS, hlen, HO, hB⟩ := hrel
    obtain ⟨w1, rfl⟩ : ∃ x, x = wr := ⟨_, rfl⟩
    by_cases hlt : k < 9
    · have hix := Fa.index k hlt
      have hde2 := HD.out k hlt
      have HNx := Lib.hid (Fa.upto_next (fun n d => D10.dayV y n false d) k hlt)
      obtain ⟨r, hr⟩ : ∃ r, Fa.row k = r := ⟨_, rfl⟩
      rw [hr] at hix hde2 HNx
      obtain ⟨kd, n, d⟩ := r
      have hix2 : ∀ w : World, (Instr.index 79 (.agg Fa.arr) (.int .i64 (k : Int))).run Tryd.prog w = .ok (.agg #[.int .i64 kd, .int .i64 n, .int .i64 d]) w := hix
      have k1 : (k : Int) < 9 := by omega
      clear hix hr
      have hde3 : D10.dateE y n false d = 0 ∧ -2000000 ≤ D10.dayV y n false d ∧ D10.dayV y n false d ≤ 3000000 := hde2
      obtain ⟨he0, hd1, hd2⟩ := hde3
      have HE : Hid (Fa.upto (fun n d => D10.dayV y n false d) (k + 1) = S ++ Fa.evs false kd (D10.dayV y n false d + Fa.mvd kd (D10.dayV y n false d % 7))) := Lib.hid (by rw [HNx.out, ← HS.out]; rfl)
      have HC2 := Lib.hid (fun (w : World) hT hL => HC.out n d w hT hL)
      rw [he0] at HC2
      clear hde2 he0
      generalize D10.dayV y n false d = D at *
      have HWd := Lib.hid (fun x => molad_Weekday D x ⟨by omega, by omega⟩)
      have HMv := Lib.hid (fun x => fast_Moved kd (D % 7) x)
      have hm := Fa.mvd_bd kd (D % 7)
      obtain ⟨M, hM⟩ : ∃ M, Fa.mvd kd (D % 7) = M := ⟨_, rfl⟩
      rw [hM] at HMv hm HE
      clear hM
      obtain ⟨hm1, hm2⟩ := hm
      go_wp2_with fail
      refine (HC2.out _ (Tab.below hT (by repeat (first | (with_reducible exact Below.refl _ _) | (with_reducible assumption) | (with_reducible refine bdrew ?_) | (with_reducible refine baa ?_ _) | (with_reducible refine bs ?_ (by first | exact Nat.le_refl _ | omega | (simp; done) | (simp; omega)) _) | (with_reducible refine bt ?_ (by with_reducible assumption))))) (Tab.below hL (by repeat (first | (with_reducible exact Below.refl _ _) | (with_reducible assumption) | (with_reducible refine bdrew ?_) | (with_reducible refine baa ?_ _) | (with_reducible refine bs ?_ (by first | exact Nat.le_refl _ | omega | (simp; done) | (simp; omega)) _) | (with_reducible refine bt ?_ (by with_reducible assumption)))))).mono ?_
      rintro e w2 ⟨rfl, hb2⟩
      obtain ⟨hc2, hf2⟩ := bcell hb2
      have hz2 := hb2.size
      try simp at hz2
      have hl2w1 : w1.heap.size < w2.heap.size := by omega
      have hm2w1 : w1.heap.size ≤ w2.heap.size := by omega
      have g2x0 : w2.cell? ⟨w1.heap.size, 0, none⟩ = some (.int .i64 kd) := (hc2 _ _ (by first | omega | (simp; done) | (simp; omega))).trans (by first | (with_reducible assumption) | (simp [go_sem]; done) | (simp [go_sem, *]; done) | assumption)
      go_wp2_with fail
      refine wp_region_class (by kernel_rfl) (by kernel_rfl) (fun hall => ?_)
      repeat (first | go_big_quiet_skip | (go_big_quiet_want; first | (refine quiet_load1 _ _ _ rfl rfl ?_ ?_ ?_; (focus (intro _; simp; done)); (focus (first | assumption | omega | (simp; done) | (simp; omega))); apply Exists.intro; refine ⟨?_, ?_⟩; assumption; go_simp; go_big_quiet_on) | (refine quiet_load2 _ _ _ _ rfl rfl ?_ ?_ ?_ ?_; (focus (intro _; simp; done)); (focus (intro _; simp; done)); (focus (first | assumption | omega | (simp; done) | (simp; omega))); apply Exists.intro; apply Exists.intro; refine ⟨?_, ?_, ?_⟩; assumption; assumption; go_simp; go_big_quiet_on) | (refine quiet_load3 _ _ _ _ rfl rfl ?_ ?_ ?_ ?_; (focus (intro _; simp; done)); (focus (intro _; simp; done)); (focus (first | assumption | omega | (simp; done) | (simp; omega))); apply Exists.intro; apply Exists.intro; apply Exists.intro; refine ⟨?_, ?_, ?_, ?_⟩; assumption; assumption; assumption; go_simp; go_big_quiet_on) | (refine quiet_load4 _ _ _ _ rfl rfl ?_ ?_ ?_ ?_; (focus (intro _; simp; done)); (focus (intro _; simp; done)); (focus (first | assumption | omega | (simp; done) | (simp; omega))); apply Exists.intro; apply Exists.intro; apply Exists.intro; apply Exists.intro; refine ⟨?_, ?_, ?_, ?_, ?_⟩; assumption; assumption; assumption; assumption; go_simp; go_big_quiet_on) | (go_big_quiet_op; first | go_big_quiet_on | (apply Exists.intro; refine ⟨fun x hx => ?_, ?_⟩; (first | (with_reducible exact call_same hx (HWd.out x)) | (with_reducible exact call_same hx (HMv.out x)) | exact call_same hx (HWd.out x) | exact call_same hx (HMv.out x)); go_big_quiet_on))))
      refine wpQuiet_nil ?_
      clear hall
      intro x10 hx10
      have x10c : x10.cell? ⟨w1.heap.size, 0, none⟩ = some (.int .i64 kd) := (hx10.cell (by first | assumption | omega)).trans g2x0
      have x10s : w1.heap.size < x10.heap.size := World.block_lt_of_cell? _ _ x10c
      have hBx1 : Below w1.heap.size w1 x10 := by repeat (first | (with_reducible exact Below.refl _ _) | (with_reducible assumption) | (with_reducible refine bdrew ?_) | (with_reducible refine baa ?_ _) | (with_reducible refine bs ?_ (by first | exact Nat.le_refl _ | omega | (simp; done) | (simp; omega)) _) | (with_reducible refine bt ?_ (by with_reducible assumption)))
      have hB10 : Below w.heap.size w x10 := bt hB hBx1
      have HO5 : x10.ownsRow w.heap.size 38 2 u4 S.length (Ev.flat S) := HO.below hBx1
      have HN4 : Hid (u4.ownBlock ≠ some w1.heap.size) := Lib.hid (fun e => by have := (HO.lt _ e).2; omega)
      have hsz4 := hB10.size
      obtain ⟨E, hE⟩ : ∃ E, D + M = E := ⟨_, rfl⟩
      rw [hE] at HE
      have hE1 : -2000002 ≤ E := by omega
      have hE2 : E ≤ 3000001 := by omega
      have HEe := Lib.hid hE
      clear HO
      by_cases hk21 : kd = 21
      · subst hk21
        go_wp2_with (first | (at_builtin; refine wpList_append_own_at _ rfl (.tmp 40) (.tmp 45) 22 rfl w.heap.size 38 i0 (.agg #[.int .i64 0, .int .i64 0]) 2 16 Tryd.underlying22 ih iz0 iz1 iz2 rfl (by decide) _ S.length (Ev.flat S) rfl (HO5.alloc _) ⟨x10.heap.size, 0, none⟩ 1 1 [.int .i64 _, .int .i64 _] rfl rfl (ev_news _ _ _) (ev_one _ _) (by simp only [maxLen]; omega) (by omega) (by first | assumption | (simp; omega) | omega) ?_; intro v6 w6 hown6 hgrow6 _ hblk6; have c6 : w6.cell? ⟨w1.heap.size, 0, none⟩ = some (.int .i64 21) := hgrow6.cell (by simp [go_sem, *]) (fun e => HN4.out e.symm); have l6 : w1.heap.size < w6.heap.size := (by have := hgrow6.size; simp at this; omega); have z6 : w.heap.size ≤ w6.heap.size := (by have := hgrow6.size; simp at this; omega)) | (at_builtin; refine wpList_append_own_at _ rfl (.tmp 50) (.tmp 54) 22 rfl w.heap.size 38 i0 (.agg #[.int .i64 0, .int .i64 0]) 2 16 Tryd.underlying22 ih iz0 iz1 iz2 rfl (by decide) _ (S.length + 1) (Ev.flat S ++ [.int .i64 21, .int .i64 E]) rfl (hown6.alloc _) ⟨w6.heap.size, 0, none⟩ 1 1 [.int .i64 _, .int .i64 _] rfl rfl (ev_news _ _ _) (ev_one _ _) (by simp only [maxLen]; omega) (by omega) (by first | assumption | (simp; omega) | omega) ?_; intro v7 w7 hown7 hgrow7 _ hblk7))
        go_roundw
        case rel =>
          have hb6 : Below w.heap.size w w6 := bgrown (baa hB10 _) hgrow6 (fun k e => (World.ownsRow.lt HO5 k e).1)
          refine ⟨k + 1, S ++ [(21, E)] ++ [(20, E - 1)], by omega, by go_num, Lib.hid ?_, by simp; omega, Ev.own_snoc (n := S.length + 1) (by simp) (by rw [Ev.flat_app]; exact hown7), bgrown (baa hb6 _) hgrow7 (fun k e => (World.ownsRow.lt hown6 k e).1)⟩
          rw [HE.out]; unfold Fa.evs; rw [if_pos rfl, if_neg Bool.false_ne_true, List.append_assoc]; rfl
        case measure => simp [intOf]; omega
      · have hk2 : (kd == 21) = false := by simpa using hk21
        have HK := Lib.hid hk21
        clear hk21
        go_wp2_with (at_builtin; refine wpList_append_own_at _ rfl (.tmp 40) (.tmp 45) 22 rfl w.heap.size 38 i0 (.agg #[.int .i64 0, .int .i64 0]) 2 16 Tryd.underlying22 ih iz0 iz1 iz2 rfl (by decide) _ S.length (Ev.flat S) rfl (HO5.alloc _) ⟨x10.heap.size, 0, none⟩ 1 1 [.int .i64 _, .int .i64 _] rfl rfl (ev_news _ _ _) (ev_one _ _) (by simp only [maxLen]; omega) (by omega) (by first | assumption | (simp; omega) | omega) ?_; intro v6 w6 hown6 hgrow6 _ hblk6; have c6 : w6.cell? ⟨w1.heap.size, 0, none⟩ = some (.int .i64 kd) := hgrow6.cell (by simp [go_sem, *]) (fun e => HN4.out e.symm); have l6 : w1.heap.size < w6.heap.size := (by have := hgrow6.size; simp at this; omega); have z6 : w.heap.size ≤ w6.heap.size := (by have := hgrow6.size; simp at this; omega))
        go_roundw
        case rel =>
          refine ⟨k + 1, S ++ [(kd, E)], by omega, by go_num, Lib.hid ?_, by simp; omega, Ev.own_snoc rfl hown6, bgrown (baa hB10 _) hgrow6 (fun k e => (World.ownsRow.lt HO5 k e).1)⟩
          rw [HE.out]; unfold Fa.evs; rw [if_neg HK.out]
        case measure => simp [intOf]; omega
    · obtain rfl : k = 9 := by omega
      clear hlt
      go_wp2_with fail
      refine (feast_Sort _ S _ HO.row (by omega)).mono ?_
      rintro e w9 ⟨v9, rfl, ho9, hb9⟩
      go_wp2_with fail
      go_ret2
      exact ⟨_, rfl, by rw [← HS.out]; exact ho9.base hB.size, bt hB hb9⟩
end Go.Proofs.YtagmdglmflcegaaDoor
