/- Layer 9: codes of texts, for every text. -/
import Derived.Test.YtmiadhiomingmaaDoorCodeT
namespace Go.Proofs.YtmiadhiomingmaaDoor
open Go.ChangeShapes Go.WideShapes Go.ChangeAt Go.RowKit
set_option linter.unusedVariables false
set_option maxRecDepth 100000
theorem str_ne {a b : ByteArray} (h : a ≠ b) : (a.toList == b.toList) = false := by
  rw [beq_eq_false_iff_ne]
  intro e
  apply h
  rw [ByteArray.toList_eq, ByteArray.toList_eq] at e
  cases a; cases b
  congr 1
  exact Array.toList_inj.1 e
/-- s is the text of the code (n, l), if ok; else of none. -/
def IsCode (s : ByteArray) (n : Int) (l : Bool) (ok : Bool) : Prop := (ok = true ∧ Cal.right n l = true ∧ codeTxt n l = s) ∨ (ok = false ∧ n = 0 ∧ l = false ∧ ∀ n' l', Cal.right n' l' = true → codeTxt n' l' ≠ s)
theorem isCode_some (s : ByteArray) : ∃ n l ok, IsCode s n l ok := by
  by_cases h : ∃ n l, Cal.right n l = true ∧ codeTxt n l = s
  · obtain ⟨n, l, h1, h2⟩ := h
    exact ⟨n, l, true, .inl ⟨rfl, h1, h2⟩⟩
  · exact ⟨0, false, false, .inr ⟨rfl, rfl, rfl, fun n' l' h1 h2 => h ⟨n', l', h1, h2⟩⟩⟩
def decTxt (t : ByteArray) : Int × Bool := (10 * (((t.data.getD 1 0).toNat : Int) - 48) + (((t.data.getD 2 0).toNat : Int) - 48), t.data.size == 4)
theorem decTxt_of (n : Int) (l : Bool) (h : Cal.right n l = true) : decTxt (codeTxt n l) = (n, l) := by
  rcases right_cases n l h with ⟨h1, h2, rfl⟩ | ⟨rfl, rfl⟩
  · rcases (show n = 1 ∨ n = 2 ∨ n = 3 ∨ n = 4 ∨ n = 5 ∨ n = 6 ∨ n = 7 ∨ n = 8 ∨ n = 9 ∨ n = 10 ∨ n = 11 ∨ n = 12 by omega) with rfl | rfl | rfl | rfl | rfl | rfl | rfl | rfl | rfl | rfl | rfl | rfl
    · decide
    · decide
    · decide
    · decide
    · decide
    · decide
    · decide
    · decide
    · decide
    · decide
    · decide
    · decide
  · decide
theorem codeTxt_inj (n n' : Int) (l l' : Bool) (h : Cal.right n l = true) (h' : Cal.right n' l' = true) (e : codeTxt n l = codeTxt n' l') : n = n' ∧ l = l' := by
  have h1 := decTxt_of n l h
  rw [e, decTxt_of n' l' h'] at h1
  simp only [Prod.mk.injEq] at h1
  exact ⟨h1.1.symm, h1.2.symm⟩
theorem code_Read_yes (n : Int) (l : Bool) (w : World) (h : Cal.right n l = true) : Calls Tryd.prog 68 #[.string (codeTxt n l)] w fun e w' => e = .returned (.tuple #[.agg #[.int .i64 n, .bool l], .bool true]) ∧ Below w.heap.size w w' := by
  rcases right_cases n l h with ⟨h1, h2, rfl⟩ | ⟨rfl, rfl⟩
  · rcases (show n = 1 ∨ n = 2 ∨ n = 3 ∨ n = 4 ∨ n = 5 ∨ n = 6 ∨ n = 7 ∨ n = 8 ∨ n = 9 ∨ n = 10 ∨ n = 11 ∨ n = 12 by omega) with rfl | rfl | rfl | rfl | rfl | rfl | rfl | rfl | rfl | rfl | rfl | rfl
    · exact code_Read_1 w
    · exact code_Read_2 w
    · exact code_Read_3 w
    · exact code_Read_4 w
    · exact code_Read_5 w
    · exact code_Read_6 w
    · exact code_Read_7 w
    · exact code_Read_8 w
    · exact code_Read_9 w
    · exact code_Read_10 w
    · exact code_Read_11 w
    · exact code_Read_12 w
  · exact code_Read_5L w
set_option maxHeartbeats 1000000 in
theorem code_Read_no (s : ByteArray) (w : World) (h100 : s.size ≤ 1000000) (hno : ∀ n' l', Cal.right n' l' = true → codeTxt n' l' ≠ s) :
    Calls Tryd.prog 68 #[.string s] w fun e w' => e = .returned (.tuple #[.agg #[.int .i64 0, .bool false], .bool false]) ∧ Below w.heap.size w w' := by
  have HNO := Lib.hid hno
  clear hno
  by_cases h3 : 3 ≤ s.size
  · have i1 : 1 < s.size := by omega
    have i2 : 2 < s.size := by omega
    obtain ⟨b1, x1⟩ : ∃ b : Nat, (s[1]'i1).toNat = b := ⟨_, rfl⟩
    obtain ⟨b2, x2⟩ : ∃ b : Nat, (s[2]'i2).toNat = b := ⟨_, rfl⟩
    have q1 : b1 < 256 := by rw [← x1]; exact UInt8.toNat_lt _
    have q2 : b2 < 256 := by rw [← x2]; exact UInt8.toNat_lt _
    obtain ⟨d1, y1⟩ : ∃ d : Int, IntKind.u8.wrap ((b1 : Int) - 48) = d := ⟨_, rfl⟩
    obtain ⟨d2, y2⟩ : ∃ d : Int, IntKind.u8.wrap ((b2 : Int) - 48) = d := ⟨_, rfl⟩
    have k1 : 0 ≤ d1 ∧ d1 ≤ 255 := by rw [← y1, IntKind.wrap_u8]; omega
    have k2 : 0 ≤ d2 ∧ d2 ≤ 255 := by rw [← y2, IntKind.wrap_u8]; omega
    obtain ⟨k3, k4⟩ := k1
    obtain ⟨k5, k6⟩ := k2
    have HR := Lib.hid (code_Text_any (10 * d1 + d2) (decide (3 < (s.size : Int))))
    have hT : Cal.right (10 * d1 + d2) (decide (3 < (s.size : Int))) = true → txtV (10 * d1 + d2) (decide (3 < (s.size : Int))) ≠ s := fun h => by
      rw [txtV, h, if_pos rfl]
      exact HNO.out _ _ h
    generalize Cal.right (10 * d1 + d2) (decide (3 < (s.size : Int))) = R at *
    generalize txtV (10 * d1 + d2) (decide (3 < (s.size : Int))) = T at *
    cases R
    · clear hT
      go_enter Tryd.func68, Tryd.ntmps68
      go_wp2_with fail
      go_region_held (fun x => x.cell? ⟨w.heap.size, 0, none⟩ = some (.int .i64 0) ∧ x.cell? ⟨w.heap.size, 1, none⟩ = some (.bool false)) (first | assumption | go_keep) (first | fail)
      all_goals go_wp2_with fail
      all_goals
        refine (HR.out _).mono ?_
        rintro e w1 ⟨rfl, hb1⟩
        obtain ⟨hc1, hf1⟩ := bcell hb1
        have hz1 := hb1.size
        try simp at hz1
        have hs1x0 : w.heap.size < w1.heap.size := by omega
        have g1x0 : w1.cell? ⟨w.heap.size, 0, none⟩ = some (.int .i64 0) := (hc1 _ _ (by first | omega | (simp; done) | (simp; omega))).trans (by first | assumption | simp [go_sem] | simp [go_sem, *])
        have g1x1 : w1.cell? ⟨w.heap.size, 1, none⟩ = some (.bool false) := (hc1 _ _ (by first | omega | (simp; done) | (simp; omega))).trans (by first | assumption | simp [go_sem] | simp [go_sem, *])
        go_wp2_with fail
        refine bodyPost_ret (v := .tuple #[.agg #[.int .i64 0, .bool false], .bool false]) (by simp [results, Tryd.results68, go_sem, g1x0, g1x1]) rfl ⟨rfl, ?_⟩
        first
          | exact bt (baa (ba _ _) _).drew hb1
          | exact bs (bs (bt (baa (ba _ _) _).drew hb1) (Nat.le_refl _) _) (Nat.le_refl _) _
    · have hq := str_ne (hT rfl)
      clear hT
      go_enter Tryd.func68, Tryd.ntmps68
      go_wp2_with fail
      go_region_held (fun x => x.cell? ⟨w.heap.size, 0, none⟩ = some (.int .i64 0) ∧ x.cell? ⟨w.heap.size, 1, none⟩ = some (.bool false)) (first | assumption | go_keep) (first | fail)
      all_goals go_wp2_with fail
      all_goals
        refine (HR.out _).mono ?_
        rintro e w1 ⟨rfl, hb1⟩
        obtain ⟨hc1, hf1⟩ := bcell hb1
        have hz1 := hb1.size
        try simp at hz1
        have hs1x0 : w.heap.size < w1.heap.size := by omega
        have g1x0 : w1.cell? ⟨w.heap.size, 0, none⟩ = some (.int .i64 0) := (hc1 _ _ (by first | omega | (simp; done) | (simp; omega))).trans (by first | assumption | simp [go_sem] | simp [go_sem, *])
        have g1x1 : w1.cell? ⟨w.heap.size, 1, none⟩ = some (.bool false) := (hc1 _ _ (by first | omega | (simp; done) | (simp; omega))).trans (by first | assumption | simp [go_sem] | simp [go_sem, *])
        go_wp2_with fail
        refine bodyPost_ret (v := .tuple #[.agg #[.int .i64 0, .bool false], .bool false]) (by simp [results, Tryd.results68, go_sem, g1x0, g1x1]) rfl ⟨rfl, ?_⟩
        first
          | exact bt (baa (ba _ _) _).drew hb1
          | exact bs (bs (bt (baa (ba _ _) _).drew hb1) (Nat.le_refl _) _) (Nat.le_refl _) _
  · have h3' : s.size < 3 := by omega
    go_enter Tryd.func68, Tryd.ntmps68
    go_wp2_with fail
    refine bodyPost_ret (v := .tuple #[.agg #[.int .i64 0, .bool false], .bool false]) (by simp [results, Tryd.results68, go_sem]) rfl ⟨rfl, ?_⟩
    repeat (first | exact Below.refl _ _ | assumption | (with_reducible refine bdrew ?_) | (with_reducible refine baa ?_ _) | (with_reducible refine bs ?_ (by first | exact Nat.le_refl _ | omega | (simp; omega)) _) | (with_reducible refine bt ?_ (by assumption)))
theorem code_Read_any (s : ByteArray) (n : Int) (l ok : Bool) (w : World) (h100 : s.size ≤ 1000000) (h : IsCode s n l ok) :
    Calls Tryd.prog 68 #[.string s] w fun e w' => e = .returned (.tuple #[.agg #[.int .i64 n, .bool l], .bool ok]) ∧ Below w.heap.size w w' := by
  rcases h with ⟨rfl, h1, rfl⟩ | ⟨rfl, rfl, rfl, h1⟩
  · exact code_Read_yes n l w h1
  · exact code_Read_no s w h100 h1
end Go.Proofs.YtmiadhiomingmaaDoor
