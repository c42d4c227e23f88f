/- Layer 9: the document's months' codes, and places. -/
import Derived.Test.YtncckpfenjokmaaDoorCodeR
import Derived.LoopTactic
namespace Go.Proofs.YtncckpfenjokmaaDoor
open Go.ChangeShapes Go.WideShapes Go.ChangeAt Go.RowKit
set_option linter.unusedVariables false
set_option maxRecDepth 100000
theorem ret_ib {a b : Int} {x y : Bool} (h : a = b) (h' : x = y) : Ending.returned (.tuple #[.int .i64 a, .bool x]) = .returned (.tuple #[.int .i64 b, .bool y]) := by rw [h, h']
theorem codes_len (lp : Bool) : (codesTo lp 12).length = if lp then 13 else 12 := by cases lp <;> decide
def codesOk (lp : Bool) : Bool := (List.range (codesTo lp 12).length).all fun j => (codesTo lp 12)[j]? == some (Cal.ofN lp ((j : Int) + 1), Cal.ofL lp ((j : Int) + 1)) && (Cal.plOk lp (Cal.ofN lp ((j : Int) + 1)) (Cal.ofL lp ((j : Int) + 1)) && Cal.plV lp (Cal.ofN lp ((j : Int) + 1)) (Cal.ofL lp ((j : Int) + 1)) == (j : Int) + 1)
theorem codesOk_ok (lp : Bool) : codesOk lp = true := by cases lp <;> decide +kernel
theorem codes_at (lp : Bool) (j : Nat) (hj : j < (codesTo lp 12).length) : (codesTo lp 12)[j]? = some (Cal.ofN lp ((j : Int) + 1), Cal.ofL lp ((j : Int) + 1)) ∧ Cal.plOk lp (Cal.ofN lp ((j : Int) + 1)) (Cal.ofL lp ((j : Int) + 1)) = true ∧ Cal.plV lp (Cal.ofN lp ((j : Int) + 1)) (Cal.ofL lp ((j : Int) + 1)) = (j : Int) + 1 := by
  have := List.all_eq_true.1 (codesOk_ok lp) j (List.mem_range.2 hj)
  simp only [Bool.and_eq_true, beq_iff_eq] at this
  exact this
theorem codes_place (lp : Bool) (j : Nat) (n : Int) (l : Bool) (h : (codesTo lp 12)[j]? = some (n, l)) : Cal.plOk lp n l = true ∧ Cal.plV lp n l = (j : Int) + 1 := by
  have h2 := codes_at lp j (List.getElem?_eq_some_iff.1 h).1
  rw [h2.1] at h
  simp only [Option.some.injEq, Prod.mk.injEq] at h
  rw [h.1, h.2] at h2
  exact h2.2
theorem codes_there (lp : Bool) (n : Int) (l : Bool) (h : Cal.plOk lp n l = true) : ∃ j, j < (codesTo lp 12).length ∧ (codesTo lp 12)[j]? = some (n, l) := by
  have hr : Cal.right n l = true := by
    cases c : Cal.right n l
    · rw [(plOk_no lp n l c).1] at h; exact h
    · rfl
  rcases right_cases n l hr with ⟨h1, h2, rfl⟩ | ⟨rfl, rfl⟩
  · obtain ⟨k, hk, rfl⟩ : ∃ k : Nat, k < 12 ∧ n = (k : Int) + 1 := ⟨(n - 1).toNat, by omega, by omega⟩
    cases lp
    · match k, hk with
      | 0, _ => exact ⟨0, by decide, by decide⟩
      | 1, _ => exact ⟨1, by decide, by decide⟩
      | 2, _ => exact ⟨2, by decide, by decide⟩
      | 3, _ => exact ⟨3, by decide, by decide⟩
      | 4, _ => exact ⟨4, by decide, by decide⟩
      | 5, _ => exact ⟨5, by decide, by decide⟩
      | 6, _ => exact ⟨6, by decide, by decide⟩
      | 7, _ => exact ⟨7, by decide, by decide⟩
      | 8, _ => exact ⟨8, by decide, by decide⟩
      | 9, _ => exact ⟨9, by decide, by decide⟩
      | 10, _ => exact ⟨10, by decide, by decide⟩
      | 11, _ => exact ⟨11, by decide, by decide⟩
    · match k, hk with
      | 0, _ => exact ⟨0, by decide, by decide⟩
      | 1, _ => exact ⟨1, by decide, by decide⟩
      | 2, _ => exact ⟨2, by decide, by decide⟩
      | 3, _ => exact ⟨3, by decide, by decide⟩
      | 4, _ => exact ⟨4, by decide, by decide⟩
      | 5, _ => exact ⟨6, by decide, by decide⟩
      | 6, _ => exact ⟨7, by decide, by decide⟩
      | 7, _ => exact ⟨8, by decide, by decide⟩
      | 8, _ => exact ⟨9, by decide, by decide⟩
      | 9, _ => exact ⟨10, by decide, by decide⟩
      | 10, _ => exact ⟨11, by decide, by decide⟩
      | 11, _ => exact ⟨12, by decide, by decide⟩
  · cases lp
    · simp [Cal.plOk] at h
    · exact ⟨5, by decide, by decide⟩
set_option maxRecDepth 100000 in
set_option maxHeartbeats 1000000 in
theorem ref9_Of_any (lp : Bool) (m : Int) (w : World) (hm : m ≤ 9223372036854775807) :
    Calls Tryd.prog 90 #[.bool lp, .int .i64 m] w fun e w' => e = .returned (.tuple #[.agg #[.int .i64 (Cal.ofN lp m), .bool (Cal.ofL lp m)], .bool (Cal.ofOk lp m)]) ∧ Below w.heap.size w w' := by
  cases lp
  · rcases (show m < 1 ∨ (1 ≤ m ∧ 12 < m) ∨ (1 ≤ m ∧ m ≤ 12) by omega) with c | ⟨c1, c⟩ | ⟨c1, c2⟩
    · have e : Cal.ofOk false m = false := by simp [Cal.ofOk, Cal.most]; omega
      simp only [Cal.ofN, Cal.ofL, e, Bool.false_and, Bool.false_eq_true, if_false]
      have hl : (codesTo false 12).length = 12 := by decide
      go_enter Tryd.func90, Tryd.ntmps90
      go_wp2_with fail
      refine (ref9_codes false _).mono ?_
      rintro e w1 ⟨v, rfl, ⟨g, cap, rfl, hcap, hBg, hg, hcell⟩, hb1⟩
      obtain ⟨hc1, hf1⟩ := bcell hb1
      have hz1 := hb1.size
      try simp at hz1
      try simp at hBg
      have hs1 : w.heap.size < w1.heap.size := by omega
      have g1x0 : w1.cell? ⟨w.heap.size, 0, none⟩ = some (.int .i64 0) := (hc1 _ _ (by simp)).trans (by simp [go_sem])
      have g1x1 : w1.cell? ⟨w.heap.size, 1, none⟩ = some (.bool false) := (hc1 _ _ (by simp)).trans (by simp [go_sem])
      rw [hl]
      clear hl hcell
      go_wp2_with fail
      refine bodyPost_ret (v := .tuple #[.agg #[.int .i64 0, .bool false], .bool false]) (by simp [results, Tryd.results90, go_sem, g1x0, g1x1]) rfl ⟨rfl, ?_⟩
      repeat (first | exact Below.refl _ _ | assumption | (with_reducible refine bdrew ?_) | (with_reducible refine baa ?_ _) | (with_reducible refine bs ?_ (by first | exact Nat.le_refl _ | omega | (simp; omega)) _) | (with_reducible refine bt ?_ (by assumption)))
    · have e : Cal.ofOk false m = false := by simp [Cal.ofOk, Cal.most]; omega
      simp only [Cal.ofN, Cal.ofL, e, Bool.false_and, Bool.false_eq_true, if_false]
      have hl : (codesTo false 12).length = 12 := by decide
      go_enter Tryd.func90, Tryd.ntmps90
      go_wp2_with fail
      refine (ref9_codes false _).mono ?_
      rintro e w1 ⟨v, rfl, ⟨g, cap, rfl, hcap, hBg, hg, hcell⟩, hb1⟩
      obtain ⟨hc1, hf1⟩ := bcell hb1
      have hz1 := hb1.size
      try simp at hz1
      try simp at hBg
      have hs1 : w.heap.size < w1.heap.size := by omega
      have g1x0 : w1.cell? ⟨w.heap.size, 0, none⟩ = some (.int .i64 0) := (hc1 _ _ (by simp)).trans (by simp [go_sem])
      have g1x1 : w1.cell? ⟨w.heap.size, 1, none⟩ = some (.bool false) := (hc1 _ _ (by simp)).trans (by simp [go_sem])
      rw [hl]
      clear hl hcell
      go_wp2_with fail
      refine bodyPost_ret (v := .tuple #[.agg #[.int .i64 0, .bool false], .bool false]) (by simp [results, Tryd.results90, go_sem, g1x0, g1x1]) rfl ⟨rfl, ?_⟩
      repeat (first | exact Below.refl _ _ | assumption | (with_reducible refine bdrew ?_) | (with_reducible refine baa ?_ _) | (with_reducible refine bs ?_ (by first | exact Nat.le_refl _ | omega | (simp; omega)) _) | (with_reducible refine bt ?_ (by assumption)))
    · obtain ⟨j, hj, rfl⟩ : ∃ j : Nat, j < 12 ∧ m = (j : Int) + 1 := ⟨(m - 1).toNat, by omega, by omega⟩
      have e : Cal.ofOk false ((j : Int) + 1) = true := by simp [Cal.ofOk, Cal.most]; omega
      have hl : (codesTo false 12).length = 12 := by decide
      obtain ⟨ha, -, -⟩ := codes_at false j (by omega)
      have h1 : (j : Int) < 12 := by omega
      have h2 : (0 : Int) ≤ (j : Int) := by omega
      rw [e]
      have HA := Lib.hid ha
      clear e ha
      generalize Cal.ofN false ((j : Int) + 1) = x at *
      generalize Cal.ofL false ((j : Int) + 1) = y at *
      go_enter Tryd.func90, Tryd.ntmps90
      go_wp2_with fail
      refine (ref9_codes false _).mono ?_
      rintro e w1 ⟨v, rfl, ⟨g, cap, rfl, hcap, hBg, hg, hcell⟩, hb1⟩
      obtain ⟨hc1, hf1⟩ := bcell hb1
      have hz1 := hb1.size
      try simp at hz1
      try simp at hBg
      have hs1 : w.heap.size < w1.heap.size := by omega
      have g1x0 : w1.cell? ⟨w.heap.size, 0, none⟩ = some (.int .i64 0) := (hc1 _ _ (by simp)).trans (by simp [go_sem])
      have g1x1 : w1.cell? ⟨w.heap.size, 1, none⟩ = some (.bool false) := (hc1 _ _ (by simp)).trans (by simp [go_sem])
      obtain ⟨d1, d2⟩ := hcell j _ HA.out
      simp only at d1 d2
      rw [hl]
      clear hl hcell hcap hj c1 c2 hm
      go_wp2_with fail
      refine bodyPost_ret (v := .tuple #[.agg #[.int .i64 x, .bool y], .bool true]) (by simp [results, Tryd.results90, go_sem, g1x0, g1x1]) rfl ⟨rfl, ?_⟩
      repeat (first | exact Below.refl _ _ | assumption | (with_reducible refine bdrew ?_) | (with_reducible refine baa ?_ _) | (with_reducible refine bs ?_ (by first | exact Nat.le_refl _ | omega | (simp; omega)) _) | (with_reducible refine bt ?_ (by assumption)))
  · rcases (show m < 1 ∨ (1 ≤ m ∧ 13 < m) ∨ (1 ≤ m ∧ m ≤ 13) by omega) with c | ⟨c1, c⟩ | ⟨c1, c2⟩
    · have e : Cal.ofOk true m = false := by simp [Cal.ofOk, Cal.most]; omega
      simp only [Cal.ofN, Cal.ofL, e, Bool.false_and, Bool.false_eq_true, if_false]
      have hl : (codesTo true 12).length = 13 := by decide
      go_enter Tryd.func90, Tryd.ntmps90
      go_wp2_with fail
      refine (ref9_codes true _).mono ?_
      rintro e w1 ⟨v, rfl, ⟨g, cap, rfl, hcap, hBg, hg, hcell⟩, hb1⟩
      obtain ⟨hc1, hf1⟩ := bcell hb1
      have hz1 := hb1.size
      try simp at hz1
      try simp at hBg
      have hs1 : w.heap.size < w1.heap.size := by omega
      have g1x0 : w1.cell? ⟨w.heap.size, 0, none⟩ = some (.int .i64 0) := (hc1 _ _ (by simp)).trans (by simp [go_sem])
      have g1x1 : w1.cell? ⟨w.heap.size, 1, none⟩ = some (.bool false) := (hc1 _ _ (by simp)).trans (by simp [go_sem])
      rw [hl]
      clear hl hcell
      go_wp2_with fail
      refine bodyPost_ret (v := .tuple #[.agg #[.int .i64 0, .bool false], .bool false]) (by simp [results, Tryd.results90, go_sem, g1x0, g1x1]) rfl ⟨rfl, ?_⟩
      repeat (first | exact Below.refl _ _ | assumption | (with_reducible refine bdrew ?_) | (with_reducible refine baa ?_ _) | (with_reducible refine bs ?_ (by first | exact Nat.le_refl _ | omega | (simp; omega)) _) | (with_reducible refine bt ?_ (by assumption)))
    · have e : Cal.ofOk true m = false := by simp [Cal.ofOk, Cal.most]; omega
      simp only [Cal.ofN, Cal.ofL, e, Bool.false_and, Bool.false_eq_true, if_false]
      have hl : (codesTo true 12).length = 13 := by decide
      go_enter Tryd.func90, Tryd.ntmps90
      go_wp2_with fail
      refine (ref9_codes true _).mono ?_
      rintro e w1 ⟨v, rfl, ⟨g, cap, rfl, hcap, hBg, hg, hcell⟩, hb1⟩
      obtain ⟨hc1, hf1⟩ := bcell hb1
      have hz1 := hb1.size
      try simp at hz1
      try simp at hBg
      have hs1 : w.heap.size < w1.heap.size := by omega
      have g1x0 : w1.cell? ⟨w.heap.size, 0, none⟩ = some (.int .i64 0) := (hc1 _ _ (by simp)).trans (by simp [go_sem])
      have g1x1 : w1.cell? ⟨w.heap.size, 1, none⟩ = some (.bool false) := (hc1 _ _ (by simp)).trans (by simp [go_sem])
      rw [hl]
      clear hl hcell
      go_wp2_with fail
      refine bodyPost_ret (v := .tuple #[.agg #[.int .i64 0, .bool false], .bool false]) (by simp [results, Tryd.results90, go_sem, g1x0, g1x1]) rfl ⟨rfl, ?_⟩
      repeat (first | exact Below.refl _ _ | assumption | (with_reducible refine bdrew ?_) | (with_reducible refine baa ?_ _) | (with_reducible refine bs ?_ (by first | exact Nat.le_refl _ | omega | (simp; omega)) _) | (with_reducible refine bt ?_ (by assumption)))
    · obtain ⟨j, hj, rfl⟩ : ∃ j : Nat, j < 13 ∧ m = (j : Int) + 1 := ⟨(m - 1).toNat, by omega, by omega⟩
      have e : Cal.ofOk true ((j : Int) + 1) = true := by simp [Cal.ofOk, Cal.most]; omega
      have hl : (codesTo true 12).length = 13 := by decide
      obtain ⟨ha, -, -⟩ := codes_at true j (by omega)
      have h1 : (j : Int) < 13 := by omega
      have h2 : (0 : Int) ≤ (j : Int) := by omega
      rw [e]
      have HA := Lib.hid ha
      clear e ha
      generalize Cal.ofN true ((j : Int) + 1) = x at *
      generalize Cal.ofL true ((j : Int) + 1) = y at *
      go_enter Tryd.func90, Tryd.ntmps90
      go_wp2_with fail
      refine (ref9_codes true _).mono ?_
      rintro e w1 ⟨v, rfl, ⟨g, cap, rfl, hcap, hBg, hg, hcell⟩, hb1⟩
      obtain ⟨hc1, hf1⟩ := bcell hb1
      have hz1 := hb1.size
      try simp at hz1
      try simp at hBg
      have hs1 : w.heap.size < w1.heap.size := by omega
      have g1x0 : w1.cell? ⟨w.heap.size, 0, none⟩ = some (.int .i64 0) := (hc1 _ _ (by simp)).trans (by simp [go_sem])
      have g1x1 : w1.cell? ⟨w.heap.size, 1, none⟩ = some (.bool false) := (hc1 _ _ (by simp)).trans (by simp [go_sem])
      obtain ⟨d1, d2⟩ := hcell j _ HA.out
      simp only at d1 d2
      rw [hl]
      clear hl hcell hcap hj c1 c2 hm
      go_wp2_with fail
      refine bodyPost_ret (v := .tuple #[.agg #[.int .i64 x, .bool y], .bool true]) (by simp [results, Tryd.results90, go_sem, g1x0, g1x1]) rfl ⟨rfl, ?_⟩
      repeat (first | exact Below.refl _ _ | assumption | (with_reducible refine bdrew ?_) | (with_reducible refine baa ?_ _) | (with_reducible refine bs ?_ (by first | exact Nat.le_refl _ | omega | (simp; omega)) _) | (with_reducible refine bt ?_ (by assumption)))
set_option maxHeartbeats 1000000 in
theorem ref9_Place_any (lp : Bool) (n : Int) (l : Bool) (w : World) :
    Calls Tryd.prog 88 #[.bool lp, .agg #[.int .i64 n, .bool l]] w fun e w' => e = .returned (.tuple #[.int .i64 (Cal.plV lp n l), .bool (Cal.plOk lp n l)]) ∧ Below w.heap.size w w' := by
  have HP := Lib.hid (codes_place lp)
  have HT := Lib.hid (codes_there lp n l)
  have HN := Lib.hid (plOk_no lp n l)
  have hN13 : (codesTo lp 12).length ≤ 13 := by rw [codes_len]; split <;> omega
  have HV : Hid (Cal.plOk lp n l = false → Cal.plV lp n l = 0) := fun h => by rw [Cal.plV, if_neg (by rw [h]; exact Bool.false_ne_true)]
  go_enter Tryd.func88, Tryd.ntmps88
  go_wp2_with fail
  refine (ref9_codes lp _).mono ?_
  rintro e w1 ⟨v, rfl, ⟨g, cap, rfl, hcap, hBg, hg, hcell⟩, hb1⟩
  obtain ⟨hc1, hf1⟩ := bcell hb1
  have hz1 := hb1.size
  try simp at hz1
  try simp at hBg
  have hs1 : w.heap.size < w1.heap.size := by omega
  have g1x0 : w1.cell? ⟨w.heap.size, 0, none⟩ = some (.int .i64 n) := (hc1 _ _ (by simp)).trans (by simp [go_sem])
  have g1x1 : w1.cell? ⟨w.heap.size, 1, none⟩ = some (.bool l) := (hc1 _ _ (by simp)).trans (by simp [go_sem])
  generalize codesTo lp 12 = xs at *
  have HC := Lib.hid hcell
  clear hcell hc1
  go_wp2_with fail
  go_loopw [7] (fun i wr => ∃ j : Nat, j ≤ xs.length ∧ i = .int .i64 j ∧ Hid (∀ i', i' < j → xs[i']? ≠ some (n, l)) ∧ Below w1.heap.size w1 wr) (fun i _ => xs.length - (intOf i).toNat)
  case atStart => exact ⟨0, by omega, rfl, Lib.hid (fun _ h => absurd h (by omega)), Below.refl _ _⟩
  case round =>
    obtain ⟨j, hj, rfl, hno, hB⟩ := hrel
    have hsz := hB.size
    by_cases hlt : j < xs.length
    · obtain ⟨⟨x, y⟩, hx⟩ : ∃ c, xs[j]? = some c := ⟨_, List.getElem?_eq_getElem hlt⟩
      obtain ⟨d1, d2⟩ := HC.out j _ hx
      simp only at d1 d2
      have e1 := (hB.cell (p := ⟨g, j * 2, none⟩) hg).trans d1
      have e2 := (hB.cell (p := ⟨g, j * 2 + 1, none⟩) hg).trans d2
      have e3 := (hB.cell (p := ⟨w.heap.size, 0, none⟩) hs1).trans g1x0
      have e4 := (hB.cell (p := ⟨w.heap.size, 1, none⟩) hs1).trans g1x1
      have hg2 : g < wr.heap.size := by omega
      have hs2 : w.heap.size < wr.heap.size := by omega
      have h1 : (j : Int) < (xs.length : Int) := by omega
      have h2 : (0 : Int) ≤ (j : Int) := by omega
      have HX := Lib.hid hx
      clear d1 d2 hx
      by_cases f1 : x = n
      · subst f1
        by_cases f2 : y = l
        · subst f2
          have HR := Lib.hid (HP.out j _ _ HX.out)
          go_wp2_with fail
          refine wp_region_class (by kernel_rfl) (by kernel_rfl) (fun hall => ?_)
          repeat (first | go_big_quiet_skip | (go_big_quiet_want; first | (refine quiet_load1 _ _ _ rfl rfl ?_ ?_ ?_; (focus (intro _; simp; done)); (focus (first | assumption | omega | (simp; done) | (simp; omega))); apply Exists.intro; refine ⟨?_, ?_⟩; assumption; go_simp; go_big_quiet_on) | (refine quiet_load2 _ _ _ _ rfl rfl ?_ ?_ ?_ ?_; (focus (intro _; simp; done)); (focus (intro _; simp; done)); (focus (first | assumption | omega | (simp; done) | (simp; omega))); apply Exists.intro; apply Exists.intro; refine ⟨?_, ?_, ?_⟩; assumption; assumption; go_simp; go_big_quiet_on) | (refine quiet_load3 _ _ _ _ rfl rfl ?_ ?_ ?_ ?_; (focus (intro _; simp; done)); (focus (intro _; simp; done)); (focus (first | assumption | omega | (simp; done) | (simp; omega))); apply Exists.intro; apply Exists.intro; apply Exists.intro; refine ⟨?_, ?_, ?_, ?_⟩; assumption; assumption; assumption; go_simp; go_big_quiet_on) | (refine quiet_load4 _ _ _ _ rfl rfl ?_ ?_ ?_ ?_; (focus (intro _; simp; done)); (focus (intro _; simp; done)); (focus (first | assumption | omega | (simp; done) | (simp; omega))); apply Exists.intro; apply Exists.intro; apply Exists.intro; apply Exists.intro; refine ⟨?_, ?_, ?_, ?_, ?_⟩; assumption; assumption; assumption; assumption; go_simp; go_big_quiet_on) | (go_big_quiet_op; first | go_big_quiet_on | (apply Exists.intro; refine ⟨fun x hx => ?_, ?_⟩; (first | fail); go_big_quiet_on))))
          refine wpQuiet_nil ?_
          clear hall
          intro x2 hx2
          have hz2 := hx2.size
          go_wp2_with fail
          go_ret2
          exact ⟨ret_ib HR.out.2.symm HR.out.1.symm, bt (bt (ba _ _) hb1) (bt hB hx2)⟩
        · have HNx : Hid (∀ i', i' < j + 1 → xs[i']? ≠ some (x, l)) := fun i' hi' he => by
            by_cases c : i' < j
            · exact hno.out i' c he
            · obtain rfl : i' = j := by omega
              rw [HX.out] at he
              simp only [Option.some.injEq, Prod.mk.injEq] at he
              exact f2 he.2
          go_wp2_with fail
          refine wp_region_class (by kernel_rfl) (by kernel_rfl) (fun hall => ?_)
          repeat (first | go_big_quiet_skip | (go_big_quiet_want; first | (refine quiet_load1 _ _ _ rfl rfl ?_ ?_ ?_; (focus (intro _; simp; done)); (focus (first | assumption | omega | (simp; done) | (simp; omega))); apply Exists.intro; refine ⟨?_, ?_⟩; assumption; go_simp; go_big_quiet_on) | (refine quiet_load2 _ _ _ _ rfl rfl ?_ ?_ ?_ ?_; (focus (intro _; simp; done)); (focus (intro _; simp; done)); (focus (first | assumption | omega | (simp; done) | (simp; omega))); apply Exists.intro; apply Exists.intro; refine ⟨?_, ?_, ?_⟩; assumption; assumption; go_simp; go_big_quiet_on) | (refine quiet_load3 _ _ _ _ rfl rfl ?_ ?_ ?_ ?_; (focus (intro _; simp; done)); (focus (intro _; simp; done)); (focus (first | assumption | omega | (simp; done) | (simp; omega))); apply Exists.intro; apply Exists.intro; apply Exists.intro; refine ⟨?_, ?_, ?_, ?_⟩; assumption; assumption; assumption; go_simp; go_big_quiet_on) | (refine quiet_load4 _ _ _ _ rfl rfl ?_ ?_ ?_ ?_; (focus (intro _; simp; done)); (focus (intro _; simp; done)); (focus (first | assumption | omega | (simp; done) | (simp; omega))); apply Exists.intro; apply Exists.intro; apply Exists.intro; apply Exists.intro; refine ⟨?_, ?_, ?_, ?_, ?_⟩; assumption; assumption; assumption; assumption; go_simp; go_big_quiet_on) | (go_big_quiet_op; first | go_big_quiet_on | (apply Exists.intro; refine ⟨fun x hx => ?_, ?_⟩; (first | fail); go_big_quiet_on))))
          refine wpQuiet_nil ?_
          clear hall
          intro x2 hx2
          have hz2 := hx2.size
          go_wp2_with fail
          go_roundw
          case rel => exact ⟨j + 1, by omega, by go_num, HNx, bt hB hx2⟩
          case measure => simp [intOf]; omega
      · have HNx : Hid (∀ i', i' < j + 1 → xs[i']? ≠ some (n, l)) := fun i' hi' he => by
          by_cases c : i' < j
          · exact hno.out i' c he
          · obtain rfl : i' = j := by omega
            rw [HX.out] at he
            simp only [Option.some.injEq, Prod.mk.injEq] at he
            exact f1 he.1
        go_wp2_with fail
        refine wp_region_class (by kernel_rfl) (by kernel_rfl) (fun hall => ?_)
        repeat (first | go_big_quiet_skip | (go_big_quiet_want; first | (refine quiet_load1 _ _ _ rfl rfl ?_ ?_ ?_; (focus (intro _; simp; done)); (focus (first | assumption | omega | (simp; done) | (simp; omega))); apply Exists.intro; refine ⟨?_, ?_⟩; assumption; go_simp; go_big_quiet_on) | (refine quiet_load2 _ _ _ _ rfl rfl ?_ ?_ ?_ ?_; (focus (intro _; simp; done)); (focus (intro _; simp; done)); (focus (first | assumption | omega | (simp; done) | (simp; omega))); apply Exists.intro; apply Exists.intro; refine ⟨?_, ?_, ?_⟩; assumption; assumption; go_simp; go_big_quiet_on) | (refine quiet_load3 _ _ _ _ rfl rfl ?_ ?_ ?_ ?_; (focus (intro _; simp; done)); (focus (intro _; simp; done)); (focus (first | assumption | omega | (simp; done) | (simp; omega))); apply Exists.intro; apply Exists.intro; apply Exists.intro; refine ⟨?_, ?_, ?_, ?_⟩; assumption; assumption; assumption; go_simp; go_big_quiet_on) | (refine quiet_load4 _ _ _ _ rfl rfl ?_ ?_ ?_ ?_; (focus (intro _; simp; done)); (focus (intro _; simp; done)); (focus (first | assumption | omega | (simp; done) | (simp; omega))); apply Exists.intro; apply Exists.intro; apply Exists.intro; apply Exists.intro; refine ⟨?_, ?_, ?_, ?_, ?_⟩; assumption; assumption; assumption; assumption; go_simp; go_big_quiet_on) | (go_big_quiet_op; first | go_big_quiet_on | (apply Exists.intro; refine ⟨fun x hx => ?_, ?_⟩; (first | fail); go_big_quiet_on))))
        refine wpQuiet_nil ?_
        clear hall
        intro x2 hx2
        have hz2 := hx2.size
        go_wp2_with fail
        go_roundw
        case rel => exact ⟨j + 1, by omega, by go_num, HNx, bt hB hx2⟩
        case measure => simp [intOf]; omega
    · have HE : Hid (Cal.plOk lp n l = false) := by
        cases h : Cal.plOk lp n l
        · rfl
        · obtain ⟨i', hi', he⟩ := HT.out h
          exact absurd he (hno.out i' (by omega))
      go_wp2_with fail
      go_ret2
      exact ⟨ret_ib (HV.out HE.out).symm HE.out.symm, bt (bt (ba _ _) hb1) hB⟩
end Go.Proofs.YtncckpfenjokmaaDoor
