/- Layer 9: codes of texts, for every text. -/
import Derived.Test.YtafenpgafmdenaaGreatDoorCodeT
namespace Go.Proofs.YtafenpgafmdenaaGreatDoor
open Go.ChangeShapes Go.WideShapes Go.ChangeAt Go.RowKit
set_option linter.unusedVariables false
set_option maxRecDepth 100000
theorem str_ne {a b : ByteArray} (h : a ≠ b) : (a.toList == b.toList) = false := by
  rw [beq_eq_false_iff_ne]
  intro e
  apply h
  rw [ByteArray.toList_eq, ByteArray.toList_eq] at e
  cases a; cases b
  congr 1
  exact Array.toList_inj.1 e
/-- s is the text of the code (n, l), if ok; else of none. -/
def IsCode (s : ByteArray) (n : Int) (l : Bool) (ok : Bool) : Prop := (ok = true ∧ Cal.right n l = true ∧ codeTxt n l = s) ∨ (ok = false ∧ n = 0 ∧ l = false ∧ ∀ n' l', Cal.right n' l' = true → codeTxt n' l' ≠ s)
theorem isCode_some (s : ByteArray) : ∃ n l ok, IsCode s n l ok := by
  by_cases h : ∃ n l, Cal.right n l = true ∧ codeTxt n l = s
  · obtain ⟨n, l, h1, h2⟩ := h
    exact ⟨n, l, true, .inl ⟨rfl, h1, h2⟩⟩
  · exact ⟨0, false, false, .inr ⟨rfl, rfl, rfl, fun n' l' h1 h2 => h ⟨n', l', h1, h2⟩⟩⟩
def decTxt (t : ByteArray) : Int × Bool := (10 * (((t.data.getD 1 0).toNat : Int) - 48) + (((t.data.getD 2 0).toNat : Int) - 48), t.data.size == 4)
theorem decTxt_of (n : Int) (l : Bool) (h : Cal.right n l = true) : decTxt (codeTxt n l) = (n, l) := by
  rcases right_cases n l h with ⟨h1, h2, rfl⟩ | ⟨rfl, rfl⟩
  · rcases (show n = 1 ∨ n = 2 ∨ n = 3 ∨ n = 4 ∨ n = 5 ∨ n = 6 ∨ n = 7 ∨ n = 8 ∨ n = 9 ∨ n = 10 ∨ n = 11 ∨ n = 12 by omega) with rfl | rfl | rfl | rfl | rfl | rfl | rfl | rfl | rfl | rfl | rfl | rfl
    · decide
    · decide
    · decide
    · decide
    · decide
    · decide
    · decide
    · decide
    · decide
    · decide
    · decide
    · decide
  · decide
theorem codeTxt_inj (n n' : Int) (l l' : Bool) (h : Cal.right n l = true) (h' : Cal.right n' l' = true) (e : codeTxt n l = codeTxt n' l') : n = n' ∧ l = l' := by
  have h1 := decTxt_of n l h
  rw [e, decTxt_of n' l' h'] at h1
  simp only [Prod.mk.injEq] at h1
  exact ⟨h1.1.symm, h1.2.symm⟩
theorem code_Read_yes (n : Int) (l : Bool) (w : World) (h : Cal.right n l = true) : Calls Tryz.prog 48 #[.string (codeTxt n l)] w fun e w' => e = .returned (.tuple #[.agg #[.int .i64 n, .bool l], .bool true]) ∧ Below w.heap.size w w' := by
  rcases right_cases n l h with ⟨h1, h2, rfl⟩ | ⟨rfl, rfl⟩
  · rcases (show n = 1 ∨ n = 2 ∨ n = 3 ∨ n = 4 ∨ n = 5 ∨ n = 6 ∨ n = 7 ∨ n = 8 ∨ n = 9 ∨ n = 10 ∨ n = 11 ∨ n = 12 by omega) with rfl | rfl | rfl | rfl | rfl | rfl | rfl | rfl | rfl | rfl | rfl | rfl
    · exact code_Read_1 w
    · exact code_Read_2 w
    · exact code_Read_3 w
    · exact code_Read_4 w
    · exact code_Read_5 w
    · exact code_Read_6 w
    · exact code_Read_7 w
    · exact code_Read_8 w
    · exact code_Read_9 w
    · exact code_Read_10 w
    · exact code_Read_11 w
    · exact code_Read_12 w
  · exact code_Read_5L w
set_option maxHeartbeats 1000000 in
theorem code_Read_no (s : ByteArray) (w : World) (h100 : s.size ≤ 1000000) (hno : ∀ n' l', Cal.right n' l' = true → codeTxt n' l' ≠ s) :
    Calls Tryz.prog 48 #[.string s] w fun e w' => e = .returned (.tuple #[.agg #[.int .i64 0, .bool false], .bool false]) ∧ Below w.heap.size w w' := by
  have HNO := Lib.hid hno
  clear hno
  by_cases h3 : 3 ≤ s.size
  · have i1 : 1 < s.size := by omega
    have i2 : 2 < s.size := by omega
    obtain ⟨b1, x1⟩ : ∃ b : Nat, (s[1]'i1).toNat = b := ⟨_, rfl⟩
    obtain ⟨b2, x2⟩ : ∃ b : Nat, (s[2]'i2).toNat = b := ⟨_, rfl⟩
    have q1 : b1 < 256 := by rw [← x1]; exact UInt8.toNat_lt _
    have q2 : b2 < 256 := by rw [← x2]; exact UInt8.toNat_lt _
    obtain ⟨d1, y1⟩ : ∃ d : Int, IntKind.u8.wrap ((b1 : Int) - 48) = d := ⟨_, rfl⟩
    obtain ⟨d2, y2⟩ : ∃ d : Int, IntKind.u8.wrap ((b2 : Int) - 48) = d := ⟨_, rfl⟩
    have k1 : 0 ≤ d1 ∧ d1 ≤ 255 := by rw [← y1, IntKind.wrap_u8]; omega
    have k2 : 0 ≤ d2 ∧ d2 ≤ 255 := by rw [← y2, IntKind.wrap_u8]; omega
    obtain ⟨k3, k4⟩ := k1
    obtain ⟨k5, k6⟩ := k2
    have HR := Lib.hid (code_Text_any (10 * d1 + d2) (decide (3 < (s.size : Int))))
    have hT : Cal.right (10 * d1 + d2) (decide (3 < (s.size : Int))) = true → txtV (10 * d1 + d2) (decide (3 < (s.size : Int))) ≠ s := fun h => by
      rw [txtV, h, if_pos rfl]
      exact HNO.out _ _ h
    generalize Cal.right (10 * d1 + d2) (decide (3 < (s.size : Int))) = R at *
    generalize txtV (10 * d1 + d2) (decide (3 < (s.size : Int))) = T at *
    cases R
    · clear hT
      go_enter Tryz.func48, Tryz.ntmps48
      go_wp2_with fail
      go_region_held (fun x => x.cell? ⟨w.heap.size, 0, none⟩ = some (.int .i64 0) ∧ x.cell? ⟨w.heap.size, 1, none⟩ = some (.bool false)) (first | assumption | go_keep) (first | fail)
      all_goals go_wp2_with fail
      all_goals
        refine (HR.out _).mono ?_
        rintro e w1 ⟨rfl, hb1⟩
        obtain ⟨hc1, hf1⟩ := bcell hb1
        have hz1 := hb1.size
        try simp at hz1
        have hs1x0 : w.heap.size < w1.heap.size := by omega
        have g1x0 : w1.cell? ⟨w.heap.size, 0, none⟩ = some (.int .i64 0) := (hc1 _ _ (by first | omega | (simp; done) | (simp; omega))).trans (by first | assumption | simp [go_sem] | simp [go_sem, *])
        have g1x1 : w1.cell? ⟨w.heap.size, 1, none⟩ = some (.bool false) := (hc1 _ _ (by first | omega | (simp; done) | (simp; omega))).trans (by first | assumption | simp [go_sem] | simp [go_sem, *])
        go_wp2_with fail
        refine bodyPost_ret (v := .tuple #[.agg #[.int .i64 0, .bool false], .bool false]) (by simp [results, Tryz.results48, go_sem, g1x0, g1x1]) rfl ⟨rfl, ?_⟩
        first
          | exact bt (baa (ba _ _) _).drew hb1
          | exact bs (bs (bt (baa (ba _ _) _).drew hb1) (Nat.le_refl _) _) (Nat.le_refl _) _
    · have hq := str_ne (hT rfl)
      clear hT
      go_enter Tryz.func48, Tryz.ntmps48
      go_wp2_with fail
      go_region_held (fun x => x.cell? ⟨w.heap.size, 0, none⟩ = some (.int .i64 0) ∧ x.cell? ⟨w.heap.size, 1, none⟩ = some (.bool false)) (first | assumption | go_keep) (first | fail)
      all_goals go_wp2_with fail
      all_goals
        refine (HR.out _).mono ?_
        rintro e w1 ⟨rfl, hb1⟩
        obtain ⟨hc1, hf1⟩ := bcell hb1
        have hz1 := hb1.size
        try simp at hz1
        have hs1x0 : w.heap.size < w1.heap.size := by omega
        have g1x0 : w1.cell? ⟨w.heap.size, 0, none⟩ = some (.int .i64 0) := (hc1 _ _ (by first | omega | (simp; done) | (simp; omega))).trans (by first | assumption | simp [go_sem] | simp [go_sem, *])
        have g1x1 : w1.cell? ⟨w.heap.size, 1, none⟩ = some (.bool false) := (hc1 _ _ (by first | omega | (simp; done) | (simp; omega))).trans (by first | assumption | simp [go_sem] | simp [go_sem, *])
        go_wp2_with fail
        refine bodyPost_ret (v := .tuple #[.agg #[.int .i64 0, .bool false], .bool false]) (by simp [results, Tryz.results48, go_sem, g1x0, g1x1]) rfl ⟨rfl, ?_⟩
        first
          | exact bt (baa (ba _ _) _).drew hb1
          | exact bs (bs (bt (baa (ba _ _) _).drew hb1) (Nat.le_refl _) _) (Nat.le_refl _) _
  · have h3' : s.size < 3 := by omega
    go_enter Tryz.func48, Tryz.ntmps48
    go_wp2_with fail
    refine bodyPost_ret (v := .tuple #[.agg #[.int .i64 0, .bool false], .bool false]) (by simp [results, Tryz.results48, go_sem]) rfl ⟨rfl, ?_⟩
    repeat (first | exact Below.refl _ _ | assumption | (with_reducible refine bdrew ?_) | (with_reducible refine baa ?_ _) | (with_reducible refine bs ?_ (by first | exact Nat.le_refl _ | omega | (simp; omega)) _) | (with_reducible refine bt ?_ (by assumption)))
theorem code_Read_any (s : ByteArray) (n : Int) (l ok : Bool) (w : World) (h100 : s.size ≤ 1000000) (h : IsCode s n l ok) :
    Calls Tryz.prog 48 #[.string s] w fun e w' => e = .returned (.tuple #[.agg #[.int .i64 n, .bool l], .bool ok]) ∧ Below w.heap.size w w' := by
  rcases h with ⟨rfl, h1, rfl⟩ | ⟨rfl, rfl, rfl, h1⟩
  · exact code_Read_yes n l w h1
  · exact code_Read_no s w h100 h1
set_option maxRecDepth 100000 in
set_option maxHeartbeats 1000000 in
theorem ref9_Read_any (s : ByteArray) (n : Int) (l ok : Bool) (w : World) (h100 : s.size ≤ 1000000) (h : IsCode s n l ok) :
    Calls Tryz.prog 51 #[.string s] w fun e w' => e = .returned (.tuple #[.agg #[.int .i64 n, .bool l], .bool ok]) ∧ Below w.heap.size w w' := by
  have HI := Lib.hid h
  have hcr : ∀ (j : Nat) x y, (codesTo true 12)[j]? = some (x, y) → Cal.right x y = true := fun j x y hj => by
    have := (codes_place true j x y hj).1
    cases c : Cal.right x y
    · rw [(plOk_no true x y c).1] at this; exact this
    · rfl
  have hct : ∀ x y, Cal.right x y = true → ∃ j, j < (codesTo true 12).length ∧ (codesTo true 12)[j]? = some (x, y) := fun x y hr => codes_there true x y (by simp [Cal.plOk, hr])
  have HCR := Lib.hid hcr
  have HCT := Lib.hid hct
  have hN13 : (codesTo true 12).length ≤ 13 := by decide
  clear h hcr hct
  go_enter Tryz.func51, Tryz.ntmps51
  go_wp2_with fail
  refine (ref9_codes true _).mono ?_
  rintro e w1 ⟨v, rfl, ⟨g, cap, rfl, hcap, hBg, hg, hcell⟩, hb1⟩
  obtain ⟨hc1, hf1⟩ := bcell hb1
  have hz1 := hb1.size
  try simp at hz1
  try simp at hBg
  have hs1 : w.heap.size < w1.heap.size := by omega
  have g1x0 : w1.cell? ⟨w.heap.size, 0, none⟩ = some (.int .i64 0) := (hc1 _ _ (by simp)).trans (by simp [go_sem])
  have g1x1 : w1.cell? ⟨w.heap.size, 1, none⟩ = some (.bool false) := (hc1 _ _ (by simp)).trans (by simp [go_sem])
  generalize codesTo true 12 = xs at *
  have HC := Lib.hid hcell
  clear hcell hc1 hcap
  go_wp2_with fail
  go_loopw [5] (fun i wr => ∃ j : Nat, j ≤ xs.length ∧ i = .int .i64 j ∧ Hid (∀ i', i' < j → ∀ x y, xs[i']? = some (x, y) → codeTxt x y ≠ s) ∧ Below w1.heap.size w1 wr) (fun i _ => xs.length - (intOf i).toNat)
  case atStart => exact ⟨0, by omega, rfl, Lib.hid (fun _ h => absurd h (by omega)), Below.refl _ _⟩
  case round =>
    obtain ⟨j, hj, rfl, hno, hB⟩ := hrel
    have hsz := hB.size
    by_cases hlt : j < xs.length
    · obtain ⟨⟨x, y⟩, hx⟩ : ∃ c, xs[j]? = some c := ⟨_, List.getElem?_eq_getElem hlt⟩
      obtain ⟨d1, d2⟩ := HC.out j _ hx
      simp only at d1 d2
      have e1 := (hB.cell (p := ⟨g, j * 2, none⟩) hg).trans d1
      have e2 := (hB.cell (p := ⟨g, j * 2 + 1, none⟩) hg).trans d2
      have e3 := (hB.cell (p := ⟨w.heap.size, 0, none⟩) hs1).trans g1x0
      have e4 := (hB.cell (p := ⟨w.heap.size, 1, none⟩) hs1).trans g1x1
      have hf3 := (hB.frozen (p := ⟨w.heap.size, 0, none⟩) hs1).trans (hf1 w.heap.size 0 (by simp))
      have hf4 := (hB.frozen (p := ⟨w.heap.size, 1, none⟩) hs1).trans (hf1 w.heap.size 1 (by simp))
      simp [go_sem] at hf3 hf4
      have hg2 : g < wr.heap.size := by omega
      have hs2 : w.heap.size < wr.heap.size := by omega
      have h1 : (j : Int) < (xs.length : Int) := by omega
      have h2 : (0 : Int) ≤ (j : Int) := by omega
      have hr := HCR.out j x y hx
      have HX := Lib.hid hx
      have ht := fun w => ref9_Text_any x y w
      rw [hr, txtV, hr, if_pos rfl] at ht
      have HTx := Lib.hid ht
      have HRr := Lib.hid hr
      clear d1 d2 hx hr ht
      by_cases f : codeTxt x y = s
      · have HE : Hid (n = x ∧ l = y ∧ ok = true) := by
          rcases HI.out with ⟨h1, h2, h3⟩ | ⟨_, _, _, h1⟩
          · obtain ⟨c1, c2⟩ := codeTxt_inj n x l y h2 HRr.out (h3.trans f.symm)
            exact ⟨c1, c2, h1⟩
          · exact absurd f (h1 x y HRr.out)
        rw [f] at HTx
        clear f
        go_wp2_with fail
        refine (HTx.out _).mono ?_
        rintro e w2 ⟨rfl, hb2⟩
        obtain ⟨hc2, hf2⟩ := bcell hb2
        have hz2 := hb2.size
        try simp at hz2
        have hs2x0 : g < w2.heap.size := by omega
        have hs2x1 : w.heap.size < w2.heap.size := by omega
        have g2x0 : w2.cell? ⟨g, j * 2, none⟩ = some (.int .i64 x) := (hc2 _ _ (by first | omega | (simp; done) | (simp; omega))).trans (by first | assumption | simp [go_sem] | simp [go_sem, *])
        have g2x1 : w2.cell? ⟨g, j * 2 + 1, none⟩ = some (.bool y) := (hc2 _ _ (by first | omega | (simp; done) | (simp; omega))).trans (by first | assumption | simp [go_sem] | simp [go_sem, *])
        have g2x2 : w2.cell? ⟨w.heap.size, 0, none⟩ = some (.int .i64 0) := (hc2 _ _ (by first | omega | (simp; done) | (simp; omega))).trans (by first | assumption | simp [go_sem] | simp [go_sem, *])
        have g2x3 : w2.cell? ⟨w.heap.size, 1, none⟩ = some (.bool false) := (hc2 _ _ (by first | omega | (simp; done) | (simp; omega))).trans (by first | assumption | simp [go_sem] | simp [go_sem, *])
        go_wp2_with fail
        obtain ⟨rfl, rfl, rfl⟩ := HE.out
        refine bodyPost_ret (v := .tuple #[.agg #[.int .i64 n, .bool l], .bool true]) (by simp [results, Tryz.results51, go_sem, g2x2, g2x3]) rfl ⟨rfl, ?_⟩
        repeat (first | exact Below.refl _ _ | assumption | (with_reducible refine bdrew ?_) | (with_reducible refine baa ?_ _) | (with_reducible refine bs ?_ (by first | exact Nat.le_refl _ | omega | (simp; omega)) _) | (with_reducible refine bt ?_ (by assumption)))
      · have HNx : Hid (∀ i', i' < j + 1 → ∀ x y, xs[i']? = some (x, y) → codeTxt x y ≠ s) := fun i' hi' x' y' he => by
          by_cases c : i' < j
          · exact hno.out i' c x' y' he
          · obtain rfl : i' = j := by omega
            rw [HX.out] at he
            simp only [Option.some.injEq, Prod.mk.injEq] at he
            rw [← he.1, ← he.2]
            exact f
        have hq := str_ne f
        clear f
        generalize codeTxt x y = T at *
        go_wp2_with fail
        refine (HTx.out _).mono ?_
        rintro e w2 ⟨rfl, hb2⟩
        go_wp2_with fail
        go_roundw
        case rel => exact ⟨j + 1, by omega, by go_num, HNx, bt hB hb2⟩
        case measure => simp [intOf]; omega
    · have HE : Hid (n = 0 ∧ l = false ∧ ok = false) := by
        rcases HI.out with ⟨h1, h2, h3⟩ | ⟨h1, h2, h3, _⟩
        · obtain ⟨i', hi', he⟩ := HCT.out n l h2
          exact absurd h3 (hno.out i' (by omega) n l he)
        · exact ⟨h2, h3, h1⟩
      have e3 := (hB.cell (p := ⟨w.heap.size, 0, none⟩) hs1).trans g1x0
      have e4 := (hB.cell (p := ⟨w.heap.size, 1, none⟩) hs1).trans g1x1
      have hf3 := (hB.frozen (p := ⟨w.heap.size, 0, none⟩) hs1).trans (hf1 w.heap.size 0 (by simp))
      have hf4 := (hB.frozen (p := ⟨w.heap.size, 1, none⟩) hs1).trans (hf1 w.heap.size 1 (by simp))
      simp [go_sem] at hf3 hf4
      go_wp2_with fail
      obtain ⟨rfl, rfl, rfl⟩ := HE.out
      refine bodyPost_ret (v := .tuple #[.agg #[.int .i64 0, .bool false], .bool false]) (by simp [results, Tryz.results51, go_sem, e3, e4]) rfl ⟨rfl, ?_⟩
      repeat (first | exact Below.refl _ _ | assumption | (with_reducible refine bdrew ?_) | (with_reducible refine baa ?_ _) | (with_reducible refine bs ?_ (by first | exact Nat.le_refl _ | omega | (simp; omega)) _) | (with_reducible refine bt ?_ (by assumption)))
end Go.Proofs.YtafenpgafmdenaaGreatDoor
