/- Layer 24: the document's readings of a cycle. -/
import Derived.Test.YtankichdmlkfmaaGreatDoorUTX
import Derived.Test.YtankichdmlkfmaaGreatDoorUTQ
set_option linter.unusedSimpArgs false
set_option linter.unusedVariables false
namespace Go.Proofs.YtankichdmlkfmaaGreatDoor
open Go.ChangeShapes Go.WideShapes Go.ChangeAt Go.RowKit Go.Lib Go.Sort Go.Shelf
set_option maxRecDepth 100000
namespace Rd
def rst (F T : List Int) (s : Int × List Rd) (d : Int) : Int × List Rd := if d ∈ F then (s.1 + many T s.1, s.2 ++ [(s.1, many T s.1, d)]) else (s.1, s.2 ++ [(0, 0, d)])
def rcyc (F T ds : List Int) : Int × List Rd := ds.foldl (rst F T) (1, [])
theorem rcyc_next (F T ds : List Int) (j : Nat) (d : Int) (hd : ds[j]? = some d) : rcyc F T (ds.take (j + 1)) = rst F T (rcyc F T (ds.take j)) d := by
 unfold rcyc
 rw [List.take_add_one, hd, List.foldl_append]
 rfl
end Rd
set_option maxHeartbeats 4000000 in
theorem ref24_Cycle_go (y pl : Int) (ds F T : List Int) (C : Value) (n nf nt : Nat) (w : World) (hl : ds.length = n) (hf : F.length = nf) (ht : T.length = nt) (hn : n ≤ 100) (hnf : nf ≤ 100) (hnt : nt ≤ 100)
  (HA : Hid (∀ w : World, Calls Tryo.prog 36 #[.int .i64 y, .int .i64 pl] w fun e w' => ∃ v, e = .returned (.tuple #[v, .int .i64 0]) ∧ Il.Own w' w.heap.size v ds ∧ Below w.heap.size w w'))
  (HF : Hid (∀ w : World, Calls Tryo.prog 37 #[.int .i64 y, .int .i64 pl] w fun e w' => ∃ v, e = .returned (.tuple #[v, .int .i64 0]) ∧ Il.Own w' w.heap.size v F ∧ Below w.heap.size w w'))
  (HC : Hid (∀ (v : Value) (w : World), Il.Row w v F → Calls Tryo.prog 39 #[.int .i64 y, v] w fun e w' => e = .returned C ∧ Below w.heap.size w w'))
  (HP : Hid (∀ w : World, Calls Tryo.prog 38 #[.int .i64 y, C] w fun e w' => ∃ v, e = .returned v ∧ Il.Own w' w.heap.size v T ∧ Below w.heap.size w w')) :
  Calls Tryo.prog 8 #[.int .i64 y, .int .i64 pl] w fun e w' => ∃ v, e = .returned (.tuple #[v, .int .i64 0]) ∧ Rd.Own w' w.heap.size v (Rd.rcyc F T ds).2 ∧ Below w.heap.size w w' := by
 obtain ⟨r0, hri, hrz0, hrz1, hrz2⟩ := info_parts Rd.info
 go_enter Tryo.func8, Tryz.ntmps8
 go_wp2_with fail
 refine (HA.out _).mono ?_
 rintro e w1 ⟨v1, rfl, ho1, hb1⟩
 have hB1 : Below w.heap.size w w1 := bel
 go_wp2_with fail
 refine (HF.out _).mono ?_
 rintro e w2 ⟨v2, rfl, ho2, hb2⟩
 have hB2 : Below w1.heap.size w1 w2 := bel
 go_wp2_with fail
 refine (HC.out _ _ ho2.row).mono ?_
 rintro e w3 ⟨rfl, hb3⟩
 go_wp2_with fail
 refine (HP.out _).mono ?_
 rintro e w5 ⟨v5, rfl, ho5, hb5⟩
 have hB25 : Below w2.heap.size w2 w5 := bel
 have hB5 : Below w.heap.size w w5 := bt (bt hB1 hB2) hB25
 have hr1 := (ho1.row.below hB2).below hB25
 have hr2 := ho2.row.below hB25
 have hr5 := ho5.row
 obtain ⟨p1, c1, rfl⟩ := hr1.len
 rw [hl]
 have HN := Lib.hid hl
 have HCF := Lib.hid (fun (D : Int) (W : World) (hW : Below w5.heap.size w5 W) => ref24_has v2 F D nf W (hr2.below hW) hf (by omega))
 have HCT := Lib.hid (fun (D : Int) (W : World) (hW : Below w5.heap.size w5 W) => ref24_has v5 T D nt W (hr5.below hW) ht (by omega))
 obtain ⟨p2, m2, c2, rfl⟩ : ∃ p m c, v2 = .slice p m c := ⟨_, _, _, hr2.len.choose_spec.choose_spec⟩
 obtain ⟨p5, m5, c5, rfl⟩ : ∃ p m c, v5 = .slice p m c := ⟨_, _, _, hr5.len.choose_spec.choose_spec⟩
 clear ho1 ho2 ho5 HA HF HC HP hl hf ht hr2 hr5
 go_wp2_with fail
 go_loopw [11, 12, 13] (fun v b i wr => ∃ (j : Nat) (nx : Int) (S : List Rd), j ≤ n ∧ i = .int .i64 (j : Int) ∧ b = .int .i64 nx ∧ (1 ≤ nx ∧ nx ≤ 1 + 2 * (j : Int)) ∧ Hid (Rd.rcyc F T (ds.take j) = (nx, S)) ∧ S.length = j ∧ Rd.Own wr w5.heap.size v S ∧ Below w5.heap.size w5 wr) (fun _ _ i _ => n - (intOf i).toNat)
 case atStart => exact ⟨0, 1, [], Nat.zero_le _, rfl, rfl, by omega, Lib.hid rfl, rfl, Rd.Own.nil _ _, bel⟩
 case round =>
  obtain ⟨j, nx, S, hj, rfl, rfl, hnx, HR, hlen, HO, hB⟩ := hrel
  obtain ⟨w9, rfl⟩ : ∃ x, x = wr := ⟨_, rfl⟩
  have hs9 := hB.size
  by_cases hlt : j < n
  ·obtain ⟨D, hx⟩ : ∃ x, ds[j]? = some x := ⟨_, List.getElem?_eq_getElem (by rw [HN.out]; exact hlt)⟩
   have HX := Lib.hid (Rd.rcyc_next F T ds j D hx)
   obtain ⟨b, off, cc, hp1, hc⟩ := (hr1.below hB).at_some (by rw [HN.out]; omega)
   rw [HN.out] at hp1
   simp only [Value.slice.injEq] at hp1
   obtain ⟨rfl, _, rfl⟩ := hp1
   have cx1 := hc j D hx
   have lx := World.block_lt_of_cell? _ _ cx1
   dsimp only at lx cx1
   have j0 : (0 : Int) ≤ (j : Int) := by omega
   have j1 : (j : Int) < (n : Int) := by omega
   have HXS := Lib.hid (fun (W : World) (hW : Below w9.heap.size w9 W) => (show W.ownsRow w5.heap.size 29 3 u11 S.length (Rd.flat S) from Rd.Own.below HO hW))
   clear hc hx
   go_wp2_with fail
   refine (HCF.out D _ bel).mono ?_
   rintro e w6 ⟨rfl, hb6⟩
   have hz6 := hb6.size
   simp at hz6
   have lg6 : w9.heap.size < w6.heap.size := by omega
   have HB6 : Below w9.heap.size w9 w6 := bel
   by_cases cF : D ∈ F
   ·rw [decide_eq_true cF]
    have HIN := Lib.hid cF
    clear cF
    have w6c0 : w6.cell? ⟨w9.heap.size, 0, none⟩ = some (.int .i64 0) := ((bcell hb6).1 _ _ (by simp)).trans (by simp [go_sem, *])
    have w6c1 : w6.cell? ⟨w9.heap.size, 1, none⟩ = some (.int .i64 0) := ((bcell hb6).1 _ _ (by simp)).trans (by simp [go_sem, *])
    have w6c2 : w6.cell? ⟨w9.heap.size, 2, none⟩ = some (.int .i64 D) := ((bcell hb6).1 _ _ (by simp)).trans (by simp [go_sem, *])
    have w6f : ∀ i, w6.frozen? ⟨w9.heap.size, i, none⟩ = false := fun i => ((bcell hb6).2 _ _ (by simp)).trans (by simp [go_sem, *])
    go_wp2_with fail
    refine (HCT.out nx _ bel).mono ?_
    rintro e w8 ⟨rfl, hb8⟩
    have hz8 := hb8.size
    simp [World.setCell] at hz8
    have lg8 : w9.heap.size < w8.heap.size := by omega
    have HB8 : Below w9.heap.size w9 w8 := bel
    have e1 : wrap64 (nx + 1) = nx + 1 := IntWalk.wrap64_in _ ⟨by omega, by omega⟩
    have e2 : wrap64 (nx + 2) = nx + 2 := IntWalk.wrap64_in _ ⟨by omega, by omega⟩
    have w8c0 : w8.cell? ⟨w9.heap.size, 0, none⟩ = some (.int .i64 nx) := ((bcell hb8).1 _ _ (by simp [World.setCell]; omega)).trans (by simp [go_sem, *])
    have w8c1 : w8.cell? ⟨w9.heap.size, 1, none⟩ = some (.int .i64 1) := ((bcell hb8).1 _ _ (by simp [World.setCell]; omega)).trans (by simp [go_sem, *])
    have w8c2 : w8.cell? ⟨w9.heap.size, 2, none⟩ = some (.int .i64 D) := ((bcell hb8).1 _ _ (by simp [World.setCell]; omega)).trans (by simp [go_sem, *])
    have w8f : ∀ i, w8.frozen? ⟨w9.heap.size, i, none⟩ = false := fun i => ((bcell hb8).2 _ _ (by simp [World.setCell]; omega)).trans (by simp [go_sem, *])
    clear w6c0 w6c1 w6c2 w6f
    by_cases cT : nx ∈ T
    ·rw [decide_eq_true cT]
     have HIT := Lib.hid cT
     clear cT
     have hsz : (w8.setCell ⟨w9.heap.size, 1, none⟩ (.int .i64 2)).heap.size = w8.heap.size := by simp [World.setCell]
     have HNW := Lib.hid (Rd.news (w8.setCell ⟨w9.heap.size, 1, none⟩ (.int .i64 2)) nx 2 D)
     rw [hsz] at HNW
     go_wp2_with (at_builtin; go_loud (refine wpList_append_own_at _ rfl (.tmp 63) (.tmp 65) 24 rfl w5.heap.size 29 r0 (.agg #[.int .i64 0, .int .i64 0, .int .i64 0]) 3 24 (und_o Tryz.underlying24) hri hrz0 hrz1 hrz2 rfl (by decide) u11 S.length (Rd.flat S) rfl (World.ownsRow.alloc (HXS.out _ bel) _) ⟨w8.heap.size, 0, none⟩ 1 1 [.int .i64 nx, .int .i64 2, .int .i64 D] rfl rfl HNW.out (Rd.one _ _ _) (by simp only [maxLen]; omega) (by omega) (by first | assumption | (simp; omega) | (simp [World.setCell]; omega) | omega) ?_; intro v7 w7 hown7 hgrow7 _ hblk7))
     go_roundw
     case rel => exact ⟨j + 1, nx + 2, S ++ [(nx, 2, D)], by omega, by go_num, rfl, by omega, Lib.hid (by rw [HX.out, HR.out]; simp [Rd.rst, Rd.many, HIN.out, HIT.out]), by simp [hlen], Rd.own_snoc rfl hown7, bgrown bel hgrow7 (fun k e => (World.ownsRow.lt HO k e).1)⟩
     case measure => simp [intOf]; omega
    ·rw [decide_eq_false cT]
     have HIT := Lib.hid cT
     clear cT
     go_wp2_with (at_builtin; go_loud (refine wpList_append_own_at _ rfl (.tmp 63) (.tmp 65) 24 rfl w5.heap.size 29 r0 (.agg #[.int .i64 0, .int .i64 0, .int .i64 0]) 3 24 (und_o Tryz.underlying24) hri hrz0 hrz1 hrz2 rfl (by decide) u11 S.length (Rd.flat S) rfl (World.ownsRow.alloc (HXS.out _ bel) _) _ 1 1 [.int .i64 _, .int .i64 _, .int .i64 _] rfl rfl (Rd.news _ _ _ _) (Rd.one _ _ _) (by simp only [maxLen]; omega) (by omega) (by first | assumption | (simp; omega) | (simp [World.setCell]; omega) | omega) ?_; intro v7 w7 hown7 hgrow7 _ hblk7))
     go_roundw
     case rel => exact ⟨j + 1, nx + 1, S ++ [(nx, 1, D)], by omega, by go_num, rfl, by omega, Lib.hid (by rw [HX.out, HR.out]; simp [Rd.rst, Rd.many, HIN.out, HIT.out]), by simp [hlen], Rd.own_snoc rfl hown7, bgrown bel hgrow7 (fun k e => (World.ownsRow.lt HO k e).1)⟩
     case measure => simp [intOf]; omega
   ·rw [decide_eq_false cF]
    have HIN := Lib.hid cF
    clear cF
    have w6c0 : w6.cell? ⟨w9.heap.size, 0, none⟩ = some (.int .i64 0) := ((bcell hb6).1 _ _ (by simp)).trans (by simp [go_sem, *])
    have w6c1 : w6.cell? ⟨w9.heap.size, 1, none⟩ = some (.int .i64 0) := ((bcell hb6).1 _ _ (by simp)).trans (by simp [go_sem, *])
    have w6c2 : w6.cell? ⟨w9.heap.size, 2, none⟩ = some (.int .i64 D) := ((bcell hb6).1 _ _ (by simp)).trans (by simp [go_sem, *])
    have w6f : ∀ i, w6.frozen? ⟨w9.heap.size, i, none⟩ = false := fun i => ((bcell hb6).2 _ _ (by simp)).trans (by simp [go_sem, *])
    go_wp2_with (at_builtin; go_loud (refine wpList_append_own_at _ rfl (.tmp 63) (.tmp 65) 24 rfl w5.heap.size 29 r0 (.agg #[.int .i64 0, .int .i64 0, .int .i64 0]) 3 24 (und_o Tryz.underlying24) hri hrz0 hrz1 hrz2 rfl (by decide) u11 S.length (Rd.flat S) rfl (World.ownsRow.alloc (HXS.out w6 bel) _) ⟨w6.heap.size, 0, none⟩ 1 1 [.int .i64 _, .int .i64 _, .int .i64 _] rfl rfl (Rd.news _ _ _ _) (Rd.one _ _ _) (by simp only [maxLen]; omega) (by omega) (by first | assumption | (simp; omega) | omega) ?_; intro v7 w7 hown7 hgrow7 _ hblk7))
    go_roundw
    case rel => exact ⟨j + 1, nx, S ++ [(0, 0, D)], by omega, by go_num, rfl, by omega, Lib.hid (by rw [HX.out, HR.out]; simp [Rd.rst, HIN.out]), by simp [hlen], Rd.own_snoc rfl hown7, bgrown bel hgrow7 (fun k e => (World.ownsRow.lt HO k e).1)⟩
    case measure => simp [intOf]; omega
  ·obtain rfl : j = n := by omega
   have HT := Lib.hid (show ds.take j = ds from List.take_of_length_le (by rw [HN.out]; exact Nat.le_refl _))
   clear hlt
   go_wp2_with fail
   go_ret2
   refine ⟨_, rfl, ?_, bt hB5 hB⟩
   rw [← HT.out, HR.out]
   exact HO.base hB5.size
end Go.Proofs.YtankichdmlkfmaaGreatDoor
