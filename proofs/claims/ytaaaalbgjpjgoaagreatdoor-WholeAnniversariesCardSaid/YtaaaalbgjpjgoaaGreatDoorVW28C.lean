/- Through the layers: WholeAnniversaries. -/
import Derived.Test.YtaaaalbgjpjgoaaGreatDoorVW28
import Derived.Test.YtaaaalbgjpjgoaaGreatDoorVW28c
import Derived.Test.YtaaaalbgjpjgoaaGreatDoorVAN
set_option linter.unusedVariables false
set_option linter.unusedSimpArgs false
set_option maxRecDepth 100000
namespace Go.Proofs.YtaaaalbgjpjgoaaGreatDoor
open Go.ChangeShapes Go.WideShapes Go.ChangeAt Go.RowKit Go.Lib Go.Sort Go.Shelf
namespace A18
theorem ahead_up (Y p q : Int) (h1 : 1 ≤ Y) (h2 : Y ≤ 9999) (p1 : 1 ≤ p) (hpq : p ≤ q) (q2 : q ≤ Cal.most (Cal.leap Y)) : D10.dAhead Y p ≤ D10.dAhead Y q := by
  obtain ⟨k, rfl⟩ : ∃ k : Nat, q = p + k := ⟨(q - p).toNat, by omega⟩
  induction k with
  | zero => simp
  | succ k ih =>
    have a := ih (by omega) (by omega)
    have b := D10.ahead_next Y (p + k) h1 h2 (by omega) (by omega)
    have c := D10.len_bd Y (p + k) h1 h2 (by omega) (by omega)
    rw [show p + ((k + 1 : Nat) : Int) = p + k + 1 by omega, b]
    omega
theorem two_days {y n d Y : Int} {l : Bool} (h : chkE y n l d Y = 0) (hn : n = 2 ∨ n = 3) (hd : 30 ≤ d) :
    D10.dayV (bY y n l d Y) (bN y n l d Y) (bL y n l d Y) (bD y n l d Y) = D10.dayV (bY y n l d Y) (tN y n l d Y) (tL y n l d Y) (tD y n l d Y) ∨ D10.dayV (bY y n l d Y) (bN y n l d Y) (bL y n l d Y) (bD y n l d Y) = D10.dayV (bY y n l d Y) (tN y n l d Y) (tL y n l d Y) (tD y n l d Y) + 1 := by
  obtain ⟨hde, h1, h2, _⟩ := chk_0 h
  obtain ⟨hv, hp⟩ := D10.date_valid hde
  obtain ⟨hl, hq, hpl⟩ := two_there (lp := Cal.leap y) (right_of hp) hn Y
  have b := bir_day h
  have t := (dth_day h).1
  have hb := bir_ok h
  have hm : m0 Y n l = n := by
    rw [m0_val h1 h2 (right_of hp), hl]
    rw [if_neg (by decide), if_neg (by omega)]
  rw [b, t]
  by_cases c1 : k1 y n l d = true
  · have e1 : pM y n l d Y = n := by unfold pM; rw [if_pos c1, hpl]
    have e2 : pE y n l d Y = D10.lastV Y n l := by unfold pE; rw [if_pos c1]
    have e3 : D10.lastV Y n l = D10.dLen Y n := by simp [D10.lastV, Cal.yearIn_yes Y h1 h2, hq, hpl]
    have e4 := D10.len_bd Y n h1 h2 (by omega) (by unfold Cal.most; split <;> omega)
    rw [e1, e2, e3, hm]
    omega
  · have c2 : ¬ k2 l d Y = true := by unfold k2; rw [hl]; simp
    have c3 : ¬ k3 y n Y = true := by unfold k3; simp; omega
    have e1 : pM y n l d Y = m0 Y n l := by unfold pM; rw [if_neg c1, if_neg c2, if_neg c3]
    have e2 : pE y n l d Y = d := by unfold pE; rw [if_neg c1]
    rw [e1, e2]
    exact .inl rfl
theorem else_days {y n d Y : Int} {l : Bool} (h : chkE y n l d Y = 0) (hn : ¬ n = 2) (hn3 : ¬ n = 3) :
    D10.dayV (bY y n l d Y) (tN y n l d Y) (tL y n l d Y) (tD y n l d Y) ≤ D10.dayV (bY y n l d Y) (bN y n l d Y) (bL y n l d Y) (bD y n l d Y) := by
  obtain ⟨hde, h1, h2, _⟩ := chk_0 h
  obtain ⟨hv, hp⟩ := D10.date_valid hde
  have b := bir_day h
  have t := (dth_day h).1
  obtain ⟨g1, g2, _⟩ := bir_ok h
  have hm := m0_val h1 h2 (right_of hp)
  rw [b, t]
  have c1 : ¬ k1 y n l d = true := by unfold k1; simp [hn, hn3]
  have e2 : pE y n l d Y = d := by unfold pE; rw [if_neg c1]
  rw [e2]
  suffices D10.dAhead Y (pM y n l d Y) ≤ D10.dAhead Y (m0 Y n l) by omega
  unfold pM
  rw [if_neg c1]
  by_cases c2 : k2 l d Y = true
  · rw [if_pos c2]
    have hl : l = true := by unfold k2 at c2; simp at c2; exact c2.2.1
    rw [if_pos hl] at hm
    exact ahead_up Y 5 _ h1 h2 (by omega) (by omega) g2
  · rw [if_neg c2]
    by_cases c3 : k3 y n Y = true
    · rw [if_pos c3]
      unfold k3 at c3
      simp only [Bool.and_eq_true, beq_iff_eq] at c3
      have : 6 ≤ m0 Y n l := by
        rw [hm]
        split
        · omega
        · rw [if_pos ⟨c3.2.2, by omega⟩]; omega
      exact ahead_up Y 6 _ h1 h2 (by omega) this g2
    · rw [if_neg c3]
      exact Int.le_refl _
end A18
theorem WholeAnniversaries_walk (z n : Int) (l : Bool) (d y : Int) (hz : I64 z) (hn : I64 n) (hd : I64 d) (hy : 0 ≤ y ∧ y ≤ 65535) (w : World) (hT : Tab w 2 kevCells) (hL : Tab w 3 lenCells) (hG : Tab w 4 Gr.gregCells) (hF : Tab w 8 Fe.cells) (hP : Tab w 5 powCells) :
    Calls Tryo.prog 12 #[.agg #[.int .i64 (z), .int .i64 (n), .bool (l), .int .i64 (d)], .int .u16 y] w fun e w' => e = .returned (.bool true) ∧ Below w.heap.size w w' := by
  have HW := (Lib.hid fun W hW => awake28 W (Tab.below hT hW) (Tab.below hL hW) (Tab.below hG hW) (Tab.below hF hW) (Tab.below hP hW))
  have k1 := Int.emod_nonneg y (show (9999 : Int) ≠ 0 by decide)
  have k2 := Int.emod_lt_of_pos y (show (0 : Int) < 9999 by decide)
  have hY : I64 (1 + y % 9999) := ⟨by omega, by omega⟩
  have HA := Lib.hid (fun W (hW : Below w.heap.size w W) => anniv_Birth z n l d (1 + y % 9999) hz hd hY W (Tab.below hT hW) (Tab.below hL hW))
  have HB := Lib.hid (fun W (hW : Below w.heap.size w W) => anniv_Death z n l d (1 + y % 9999) hz hd hY W (Tab.below hT hW) (Tab.below hL hW))
  have HC := Lib.hid (fun W (hW : Below w.heap.size w W) => heb_Check z n l d W hz (Tab.below hT hW) (Tab.below hL hW))
  by_cases h0 : A18.chkE z n l d (1 + y % 9999) = 0
  · have hbY : A18.bY z n l d (1 + y % 9999) = 1 + y % 9999 := by unfold A18.bY; rw [if_pos h0]
    obtain ⟨hde, h1, h2, hlt⟩ := A18.chk_0 h0
    obtain ⟨hv, hp⟩ := D10.date_valid hde
    have hbd := (A18.bir_date h0).1
    have htd := A18.dth_date h0
    have hI : I64 (A18.bY z n l d (1 + y % 9999)) := by rw [hbY]; exact hY
    have DM := Lib.hid (fun W (hW : Below w.heap.size w W) => heb_ToDay (A18.bY z n l d (1 + y % 9999)) (A18.bN z n l d (1 + y % 9999)) (A18.bL z n l d (1 + y % 9999)) (A18.bD z n l d (1 + y % 9999)) W hI (Tab.below hT hW) (Tab.below hL hW))
    have DN := Lib.hid (fun W (hW : Below w.heap.size w W) => heb_ToDay (A18.bY z n l d (1 + y % 9999)) (A18.tN z n l d (1 + y % 9999)) (A18.tL z n l d (1 + y % 9999)) (A18.tD z n l d (1 + y % 9999)) W hI (Tab.below hT hW) (Tab.below hL hW))
    have hbn := (D10.dayV_ok _ _ _ _ htd).2
    have htw := @A18.two_days z n d (1 + y % 9999) l h0
    have hel := @A18.else_days z n d (1 + y % 9999) l h0
    have hps := @A18.plain_same z n d (1 + y % 9999) l h0
    have hl6 : n = 2 ∨ n = 3 → l = false := fun c => (A18.two_there (lp := Cal.leap z) (A18.right_of hp) c 1).1
    rw [h0] at HA HB
    rw [hbd] at DM
    rw [htd] at DN
    clear hbd htd h0 hde hv hp h1 h2
    rw [hbY] at HA HB DM DN hbn htw hel
    by_cases c : d < 30 ∧ ¬ n = 6 ∧ l = false
    · obtain ⟨c1, c2, rfl⟩ := c
      obtain ⟨⟨p1, p2, p3⟩, q1, q2, q3⟩ := hps c1 rfl c2
      rw [p1, p2, p3] at HA DM
      rw [q1, q2, q3] at HB DN hbn
      exact WholeAnniversaries_plain z n d y _ hy hlt hbn c1 (bne_iff_ne.2 c2) w HA HB DM DN HW
    · clear hps
      generalize D10.dayV (1 + y % 9999) (A18.bN z n l d (1 + y % 9999)) (A18.bL z n l d (1 + y % 9999)) (A18.bD z n l d (1 + y % 9999)) = dm at *
      generalize D10.dayV (1 + y % 9999) (A18.tN z n l d (1 + y % 9999)) (A18.tL z n l d (1 + y % 9999)) (A18.tD z n l d (1 + y % 9999)) = dn at *
      by_cases hn2 : n = 2
      · subst hn2
        have hd3 : 30 ≤ d := by
          rcases Int.lt_or_le d 30 with c3 | c3
          · exact absurd ⟨c3, by decide, hl6 (.inl rfl)⟩ c
          · exact c3
        rcases htw (.inl rfl) hd3 with rfl | rfl
        · exact WholeAnniversaries_two2a z l d y _ _ _ _ _ _ _ hy hlt hbn hd3 w HA HB DM DN HW
        · exact WholeAnniversaries_two2b z l d y _ _ _ _ _ _ _ hy hlt hbn hd3 w HA HB DM DN HW
      · by_cases hn3 : n = 3
        · subst hn3
          have hd3 : 30 ≤ d := by
            rcases Int.lt_or_le d 30 with c3 | c3
            · exact absurd ⟨c3, by decide, hl6 (.inr rfl)⟩ c
            · exact c3
          rcases htw (.inr rfl) hd3 with rfl | rfl
          · exact WholeAnniversaries_two3a z l d y _ _ _ _ _ _ _ hy hlt hbn hd3 w HA HB DM DN HW
          · exact WholeAnniversaries_two3b z l d y _ _ _ _ _ _ _ hy hlt hbn hd3 w HA HB DM DN HW
        · have hm := hel hn2 hn3
          have n2 : (n == 2) = false := beq_eq_false_iff_ne.2 hn2
          have n3 : (n == 3) = false := beq_eq_false_iff_ne.2 hn3
          rcases Int.lt_or_le d 30 with c3 | c3
          · by_cases c6 : n = 6
            · subst c6
              exact WholeAnniversaries_elseB z l d y _ _ _ _ _ _ _ _ hy hlt hbn c3 hm w HA HB DM DN HW
            · have cl : l = true := by
                cases l
                · exact absurd ⟨c3, c6, rfl⟩ c
                · rfl
              subst cl
              exact WholeAnniversaries_elseC z n d y _ _ _ _ _ _ _ _ hy hlt hbn c3 (bne_iff_ne.2 c6) n2 n3 hm w HA HB DM DN HW
          · exact WholeAnniversaries_elseA z n l d y _ _ _ _ _ _ _ _ hy hlt hbn c3 n2 n3 hm w HA HB DM DN HW
  · have hne : (A18.chkE z n l d (1 + y % 9999) != 0) = true := bne_iff_ne.2 h0
    unfold A18.bY A18.bN A18.bL A18.bD at HA
    unfold A18.bY A18.tN A18.tL A18.tD at HB
    rw [if_neg h0, if_neg h0, if_neg h0, if_neg h0] at HA HB
    by_cases c : D10.dateE z n l d = 0
    · have e1 : A18.chkE z n l d (1 + y % 9999) = 1 ∧ 1 + y % 9999 ≤ z := by
        unfold A18.chkE at h0 ⊢
        rw [if_pos c, if_neg (show ¬ (1 + y % 9999 < 1 ∨ 9999 < 1 + y % 9999) by omega)] at h0 ⊢
        by_cases c2 : 1 + y % 9999 ≤ z
        · exact ⟨if_pos c2, c2⟩
        · rw [if_neg c2] at h0; exact absurd rfl h0
      rw [e1.1] at HA HB
      rw [c] at HC
      exact WholeAnniversaries_arg z n l d y hy e1.2 w HA HB HC HW
    · have e1 : A18.chkE z n l d (1 + y % 9999) = D10.dateE z n l d := by unfold A18.chkE; rw [if_neg c]
      rw [e1] at HA HB hne
      exact WholeAnniversaries_err z n l d y _ hne hy w HA HB HC HW
end Go.Proofs.YtaaaalbgjpjgoaaGreatDoor
