/- Layer 27: the document's next day, and the one ahead, of any date. -/
import Derived.Test.YtbmcpeccofadhaaDoorCountR
namespace Go.Proofs.YtbmcpeccofadhaaDoor
open Go.ChangeShapes Go.WideShapes Go.ChangeAt Go.RowKit
set_option linter.unusedVariables false
set_option maxRecDepth 100000
namespace D27
theorem last_29 (y : Int) (h1 : 1 ≤ y) (h2 : y ≤ 9999) : D10.dLen y (Cal.most (Cal.leap y)) = 29 := by
  obtain ⟨i, hi, a, b, c⟩ := year_row y h1 h2
  unfold D10.dLen
  rw [a, b, c]
  have := List.all_eq_true.1 (show ((List.range 14).all fun i => decide (daysV (kevB i) (kevK i) (kevL i) (Cal.most (kevL i)) = 29)) = true by decide +kernel) i (List.mem_range.2 hi)
  simpa using this
theorem of_most (lp : Bool) : Cal.ofN lp (Cal.most lp) = 12 := by cases lp <;> decide
end D27
theorem ref27_Next (y n : Int) (l : Bool) (d : Int) (w : World) (hy : I64 y) (ry rn : Int) (rl : Bool) (rd er : Int) (hI : D27.NextIs y n l d ry rn rl rd er) :
    Calls Tryd.prog 13 #[.agg #[.int .i64 (y), .int .i64 (n), .bool (l), .int .i64 (d)]] w fun e w' => e = .returned (.tuple #[.agg #[.int .i64 (ry), .int .i64 (rn), .bool (rl), .int .i64 (rd)], .int .i64 (er)]) ∧ Below w.heap.size w w' := by
  have HC := Lib.hid (fun w => ref10_Check y n l d w hy)
  by_cases c : D10.dateE y n l d = 0
  · obtain ⟨⟨y1, y2, m1, m2, d1, d2⟩, hp⟩ := D10.date_valid c
    obtain ⟨hv, hday, hn, hl⟩ := D10.date_back c
    have hlb := D10.len_bd y _ y1 y2 m1 m2
    have hm13 : Cal.most (Cal.leap y) ≤ 13 := by unfold Cal.most; split <;> omega
    rw [c] at HC
    have HK := Lib.hid (fun w => ref7_Of_ok y w y1 y2)
    have HP := Lib.hid (fun w => ref9_Place_any (Cal.leap y) n l w)
    have HDy := Lib.hid (fun w => ref8_Days (Cal.first y % 7) (Cal.kind y) (Cal.leap y) (Cal.plV (Cal.leap y) n l) w)
    have HCt := Lib.hid (fun w => ref8_Count (Cal.first y % 7) (Cal.kind y) (Cal.leap y) w)
    rw [(D10.year_facts y y1 y2).1] at HCt
    have HO := Lib.hid (fun w => ref9_Of_any (Cal.leap y) (Cal.plV (Cal.leap y) n l + 1) w (by omega))
    have key : ∀ {y' n' : Int} {l' : Bool} {d' : Int}, D10.dateE y' n' l' d' = 0 → D10.dayV y' n' l' d' = D10.dayV y n l d + 1 → y' = ry ∧ n' = rn ∧ l' = rl ∧ d' = rd ∧ er = 0 := by
      intro y' n' l' d' a b
      rcases hI with ⟨h, _⟩ | ⟨_, h, _⟩ | ⟨_, h0, h1, h2⟩
      · exact absurd c h
      · obtain ⟨_, b1, b2⟩ := D10.dayV_ok _ _ _ _ a
        omega
      · obtain ⟨e1, e2, e3, e4⟩ := D10.same_day a h1 (b.trans h2.symm)
        exact ⟨e1, e2, e3, e4, h0⟩
    by_cases c1 : d < D10.dLen y (Cal.plV (Cal.leap y) n l)
    · obtain ⟨a, b⟩ := D27.date_at (d := d + 1) ⟨y1, y2, m1, m2, by omega, by omega⟩ hn hl
      obtain ⟨rfl, rfl, rfl, rfl, rfl⟩ := key a (by rw [b, hday]; unfold D10.dayOf; omega)
      exact ref27_Next_day _ _ _ _ _ _ _ _ _ _ w HC HK HP HDy ⟨by omega, by omega⟩ c1
    · have hdl : d = D10.dLen y (Cal.plV (Cal.leap y) n l) := by omega
      by_cases c2 : Cal.plV (Cal.leap y) n l + 1 ≤ Cal.most (Cal.leap y)
      · have hlb2 := D10.len_bd y (Cal.plV (Cal.leap y) n l + 1) y1 y2 (by omega) c2
        obtain ⟨a, b⟩ := D27.date_at (y := y) (m := Cal.plV (Cal.leap y) n l + 1) (d := 1) ⟨y1, y2, by omega, c2, by omega, by omega⟩ rfl rfl
        obtain ⟨e1, e2, e3, e4, rfl⟩ := key a (by rw [b, hday, D27.dayOf_next y1 y2 m1 c2, ← hdl])
        rw [← e1, ← e2, ← e3, ← e4]
        exact ref27_Next_month y n l d _ _ _ _ _ _ _ _ _ _ w HC HK HP HDy HCt HO ⟨by omega, by omega⟩ ⟨m1, by omega⟩ (by have e : D10.dLen y (Cal.plV (Cal.leap y) n l) = daysV (Cal.first y % 7) (Cal.kind y) (Cal.leap y) (Cal.plV (Cal.leap y) n l) := rfl; omega) (by omega)
      · have hmm : Cal.plV (Cal.leap y) n l = Cal.most (Cal.leap y) := by omega
        by_cases c3 : y = 9999
        · subst c3
          have hd9 : D10.dayV 9999 n l d = 2278650 := by rw [hday, hdl, hmm]; exact D27.dayOf_last
          rcases hI with ⟨h, _⟩ | ⟨_, _, rfl, rfl, rfl, rfl, rfl⟩ | ⟨_, _, h1, h2⟩
          · exact absurd c h
          · exact ref27_Next_last n l d _ _ _ _ _ _ _ w HC HK HP HDy HCt ⟨by omega, by omega⟩ ⟨m1, by omega⟩ (by have e : D10.dLen 9999 (Cal.plV (Cal.leap 9999) n l) = daysV (Cal.first 9999 % 7) (Cal.kind 9999) (Cal.leap 9999) (Cal.plV (Cal.leap 9999) n l) := rfl; omega) (by omega)
          · obtain ⟨_, _, b2⟩ := D10.dayV_ok _ _ _ _ h1
            omega
        · have hlb2 := D10.len_bd (y + 1) 1 (by omega) (by omega) (by omega) (D10.most_one _)
          obtain ⟨a, b⟩ := D27.date_at (y := y + 1) (m := 1) (d := 1) ⟨by omega, by omega, by omega, D10.most_one _, by omega, by omega⟩ (S15.codes_ends _).1 (S15.codes_ends _).2
          obtain ⟨e1, e2, e3, e4, rfl⟩ := key a (by rw [b, hday, D27.dayOf_year y1 (by omega), hdl, hmm])
          rw [← e1, ← e2, ← e3, ← e4]
          exact ref27_Next_year y n l d _ _ _ _ _ _ _ w HC HK HP HDy HCt ⟨by omega, by omega⟩ ⟨m1, by omega⟩ (by have e : D10.dLen y (Cal.plV (Cal.leap y) n l) = daysV (Cal.first y % 7) (Cal.kind y) (Cal.leap y) (Cal.plV (Cal.leap y) n l) := rfl; omega) (by omega) y1 (by omega)
  · rcases hI with ⟨_, rfl, rfl, rfl, rfl, rfl⟩ | ⟨h, _⟩ | ⟨h, _⟩
    · exact ref27_Next_err y n l d _ w HC (by simpa using c)
    · exact absurd h c
    · exact absurd h c
theorem ref27_Ahead (y n : Int) (l : Bool) (d : Int) (w : World) (hy : I64 y) (ry rn : Int) (rl : Bool) (rd er : Int) (hI : D27.AheadIs y n l d ry rn rl rd er) :
    Calls Tryd.prog 15 #[.agg #[.int .i64 (y), .int .i64 (n), .bool (l), .int .i64 (d)]] w fun e w' => e = .returned (.tuple #[.agg #[.int .i64 (ry), .int .i64 (rn), .bool (rl), .int .i64 (rd)], .int .i64 (er)]) ∧ Below w.heap.size w w' := by
  have HC := Lib.hid (fun w => ref10_Check y n l d w hy)
  by_cases c : D10.dateE y n l d = 0
  · obtain ⟨⟨y1, y2, m1, m2, d1, d2⟩, hp⟩ := D10.date_valid c
    obtain ⟨hv, hday, hn, hl⟩ := D10.date_back c
    have hlb := D10.len_bd y _ y1 y2 m1 m2
    have hm13 : Cal.most (Cal.leap y) ≤ 13 := by unfold Cal.most; split <;> omega
    rw [c] at HC
    have HK := Lib.hid (fun w => ref7_Of_ok y w y1 y2)
    have HP := Lib.hid (fun w => ref9_Place_any (Cal.leap y) n l w)
    have HDy := Lib.hid (fun w => ref8_Days (Cal.first y % 7) (Cal.kind y) (Cal.leap y) (Cal.plV (Cal.leap y) n l - 1) w)
    have HO := Lib.hid (fun w => ref9_Of_any (Cal.leap y) (Cal.plV (Cal.leap y) n l - 1) w (by omega))
    have key : ∀ {y' n' : Int} {l' : Bool} {d' : Int}, D10.dateE y' n' l' d' = 0 → D10.dayV y' n' l' d' = D10.dayV y n l d - 1 → y' = ry ∧ n' = rn ∧ l' = rl ∧ d' = rd ∧ er = 0 := by
      intro y' n' l' d' a b
      rcases hI with ⟨h, _⟩ | ⟨_, h, _⟩ | ⟨_, h0, h1, h2⟩
      · exact absurd c h
      · obtain ⟨_, b1, b2⟩ := D10.dayV_ok _ _ _ _ a
        omega
      · obtain ⟨e1, e2, e3, e4⟩ := D10.same_day a h1 (b.trans h2.symm)
        exact ⟨e1, e2, e3, e4, h0⟩
    by_cases c1 : 1 < d
    · obtain ⟨a, b⟩ := D27.date_at (d := d - 1) ⟨y1, y2, m1, m2, by omega, by omega⟩ hn hl
      obtain ⟨rfl, rfl, rfl, rfl, rfl⟩ := key a (by rw [b, hday]; unfold D10.dayOf; omega)
      exact ref27_Ahead_day _ _ _ _ w HC ⟨by omega, by omega⟩ c1
    · have hd1 : d = 1 := by omega
      by_cases c2 : 1 < Cal.plV (Cal.leap y) n l
      · have hlb2 := D10.len_bd y (Cal.plV (Cal.leap y) n l - 1) y1 y2 (by omega) (by omega)
        obtain ⟨a, b⟩ := D27.date_at (y := y) (m := Cal.plV (Cal.leap y) n l - 1) (d := D10.dLen y (Cal.plV (Cal.leap y) n l - 1)) ⟨y1, y2, by omega, by omega, by omega, by omega⟩ rfl rfl
        have hnx := D27.dayOf_next (y := y) (m := Cal.plV (Cal.leap y) n l - 1) y1 y2 (by omega) (by omega)
        rw [show Cal.plV (Cal.leap y) n l - 1 + 1 = Cal.plV (Cal.leap y) n l by omega] at hnx
        obtain ⟨e1, e2, e3, e4, rfl⟩ := key a (by rw [b, hday, hd1, hnx]; omega)
        rw [← e1, ← e2, ← e3, ← e4]
        exact ref27_Ahead_month y n l d _ _ _ _ _ _ _ _ _ w HC HK HP HO HDy ⟨by omega, by omega⟩ ⟨m1, by omega⟩ (by omega) c2
      · have hmm : Cal.plV (Cal.leap y) n l = 1 := by omega
        by_cases c3 : y = 1
        · subst c3
          have hd9 : D10.dayV 1 n l d = -1373427 := by rw [hday, hd1, hmm]; exact D27.dayOf_first
          rcases hI with ⟨h, _⟩ | ⟨_, _, rfl, rfl, rfl, rfl, rfl⟩ | ⟨_, _, h1, h2⟩
          · exact absurd c h
          · exact ref27_Ahead_first n l d _ _ _ _ _ w HC HK HP ⟨by omega, by omega⟩ ⟨m1, by omega⟩ (by omega) (by omega)
          · obtain ⟨_, b2, _⟩ := D10.dayV_ok _ _ _ _ h1
            omega
        · have q29 := D27.last_29 (y - 1) (by omega) (by omega)
          obtain ⟨a, b⟩ := D27.date_at (y := y - 1) (m := Cal.most (Cal.leap (y - 1))) (d := 29) ⟨by omega, by omega, D10.most_one _, Int.le_refl _, by omega, by omega⟩ (D27.of_most _) (D27.ofL_most _)
          have hyr := D27.dayOf_year (y := y - 1) (by omega) (by omega)
          rw [show y - 1 + 1 = y by omega, q29] at hyr
          obtain ⟨e1, e2, e3, e4, rfl⟩ := key a (by rw [b, hday, hd1, hmm, hyr]; omega)
          rw [← e1, ← e2, ← e3, ← e4]
          exact ref27_Ahead_year y n l d _ _ _ _ _ w HC HK HP ⟨by omega, by omega⟩ ⟨m1, by omega⟩ (by omega) (by omega) (by omega) y2
  · rcases hI with ⟨_, rfl, rfl, rfl, rfl, rfl⟩ | ⟨h, _⟩ | ⟨h, _⟩
    · exact ref27_Ahead_err y n l d _ w HC (by simpa using c)
    · exact absurd h c
    · exact absurd h c
end Go.Proofs.YtbmcpeccofadhaaDoor
