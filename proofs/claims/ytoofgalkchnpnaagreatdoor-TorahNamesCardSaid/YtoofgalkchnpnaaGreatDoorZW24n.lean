/- Layer 24: TorahNames. -/
import Derived.Test.YtoofgalkchnpnaaGreatDoorZW24
namespace Go.Proofs.YtoofgalkchnpnaaGreatDoor
open Go.ChangeShapes Go.WideShapes Go.ChangeAt Go.RowKit Go.Lib Go.Sort Go.Shelf
set_option linter.unusedVariables false
set_option linter.unusedSimpArgs false
set_option maxRecDepth 100000
namespace Rd
theorem nm_all : ((List.range 54).all fun a => (List.range 54).all fun b => decide ((nmL.getD a ByteArray.empty).data.toList = (nmL.getD b ByteArray.empty).data.toList → a = b)) = true := by decide +kernel
theorem nm_ne : ((List.range 54).all fun a => !((nmL.getD a ByteArray.empty).data.toList == [])) = true := by decide +kernel
theorem nm_inj {m n : Int} (h1 : 1 ≤ m) (h2 : m ≤ 54) (h3 : 1 ≤ n) (h4 : n ≤ 54) (h : nm m = nm n) : m = n := by
  have k := List.all_eq_true.1 nm_all (m - 1).toNat (List.mem_range.2 (by omega))
  have k2 := of_decide_eq_true (List.all_eq_true.1 k (n - 1).toNat (List.mem_range.2 (by omega)))
  have := k2 (by unfold nm at h; rw [h])
  omega
theorem nm_some {m : Int} (h1 : 1 ≤ m) (h2 : m ≤ 54) : nm m ≠ ⟨#[]⟩ := by
  have k := List.all_eq_true.1 nm_ne (m - 1).toNat (List.mem_range.2 (by omega))
  intro h
  unfold nm at h
  rw [h] at k
  simp at k
end Rd
set_option maxHeartbeats 2000000 in
theorem TorahNames_go (a b : Int) (sm sn : ByteArray) (p1 p2 : Bool) (w : World) (ha : 0 ≤ a ∧ a ≤ 255) (hb : 0 ≤ b ∧ b ≤ 255) (hP : Tab w 1 Rd.prCells) (hN : Tab w 0 Rd.nmCells)
    (hm : ¬ sm.toList = []) (hp : p1 = true → p2 = false ∧ 1 + a % 54 + 1 ≤ 53)
    (HM : Hid (∀ w : World, Tab w 0 Rd.nmCells → Calls Tryo.prog 23 #[.int .i64 (1 + a % 54)] w fun e w' => e = .returned (.string sm) ∧ w = w'))
    (HN : Hid (∀ w : World, Tab w 0 Rd.nmCells → Calls Tryo.prog 23 #[.int .i64 (1 + b % 54)] w fun e w' => e = .returned (.string sn) ∧ w = w'))
    (HP : Hid (∀ w : World, Tab w 1 Rd.prCells → Calls Tryo.prog 25 #[.int .i64 (1 + a % 54)] w fun e w' => e = .returned (.bool p1) ∧ w = w'))
    (HQ : Hid (∀ w : World, Tab w 1 Rd.prCells → Calls Tryo.prog 25 #[.int .i64 (1 + a % 54 + 1)] w fun e w' => e = .returned (.bool p2) ∧ w = w'))
    (HW : Hid (Calls Tryo.prog 21 #[] w fun e w' => e = .returned (.bool true) ∧ Below w.heap.size w w')) (hs : (sm.toList == sn.toList) = (1 + a % 54 == 1 + b % 54)) :
    Calls Tryo.prog 9 #[.int .u8 a, .int .u8 b] w fun e w' => e = .returned (.bool true) ∧ Below w.heap.size w w' := by
  obtain ⟨a1, a2⟩ := ha
  obtain ⟨b1, b2⟩ := hb
  have k0 : a.tmod 54 = a % 54 := Int.tmod_eq_emod_of_nonneg a1
  have k1 := Int.emod_nonneg a (show (54 : Int) ≠ 0 by decide)
  have k2 := Int.emod_lt_of_pos a (show (0 : Int) < 54 by decide)
  have l0 : b.tmod 54 = b % 54 := Int.tmod_eq_emod_of_nonneg b1
  have l1 := Int.emod_nonneg b (show (54 : Int) ≠ 0 by decide)
  have l2 := Int.emod_lt_of_pos b (show (0 : Int) < 54 by decide)
  have he : (!sm.toList.isEmpty) = true := by simpa using hm
  have HE := Lib.hid he
  clear he
  go_enter Tryo.func9, Tryz.ntmps9
  go_wp2_with fail
  refine HW.out.mono ?_
  rintro e w1 ⟨rfl, hb1⟩
  have hN1 := Lib.hid (Tab.below hN hb1)
  have hP1 := Lib.hid (Tab.below hP hb1)
  go_wp2_with fail
  refine (HM.out _ hN1.out).mono ?_
  rintro e w' ⟨rfl, rfl⟩
  go_wp2_with fail
  refine (HM.out _ hN1.out).mono ?_
  rintro e w' ⟨rfl, rfl⟩
  go_wp2_with fail
  refine (HN.out _ hN1.out).mono ?_
  rintro e w' ⟨rfl, rfl⟩
  go_wp2_with fail
  refine (HP.out _ hP1.out).mono ?_
  rintro e w' ⟨rfl, rfl⟩
  cases p1
  · go_wp2_with fail
    go_ret
    exact ⟨by show Ending.returned (.bool (!sm.toList.isEmpty)) = _; rw [HE.out], hb1⟩
  · obtain ⟨rfl, hle⟩ := hp rfl
    go_wp2_with fail
    refine (HQ.out _ hP1.out).mono ?_
    rintro e w' ⟨rfl, rfl⟩
    go_wp2_with fail
    go_ret
    exact ⟨by show Ending.returned (.bool (!sm.toList.isEmpty)) = _; rw [HE.out], hb1⟩
theorem TorahNames_walk (a b : Int) (ha : 0 ≤ a ∧ a ≤ 255) (hb : 0 ≤ b ∧ b ≤ 255) (w : World) (hT : Tab w 4 kevCells) (hL : Tab w 3 lenCells) (hF : Tab w 2 Fe.cells) (hP : Tab w 1 Rd.prCells) (hN : Tab w 0 Rd.nmCells) :
    Calls Tryo.prog 9 #[.int .u8 a, .int .u8 b] w fun e w' => e = .returned (.bool true) ∧ Below w.heap.size w w' := by
  have k1 := Int.emod_nonneg a (show (54 : Int) ≠ 0 by decide)
  have k2 := Int.emod_lt_of_pos a (show (0 : Int) < 54 by decide)
  have l1 := Int.emod_nonneg b (show (54 : Int) ≠ 0 by decide)
  have l2 := Int.emod_lt_of_pos b (show (0 : Int) < 54 by decide)
  refine TorahNames_go a b (Rd.nm (1 + a % 54)) (Rd.nm (1 + b % 54)) (decide (1 + a % 54 ∈ Rd.prL)) (decide (1 + a % 54 + 1 ∈ Rd.prL)) w ha hb hP hN ?_ ?_ (Lib.hid fun w h => rd_Name _ w (by omega) (by omega) h) (Lib.hid fun w h => rd_Name _ w (by omega) (by omega) h) (Lib.hid fun w h => rd_Pair _ w h) (Lib.hid fun w h => rd_Pair _ w h) (Lib.hid (awake24 w hT hL hF hP hN)) ?_
  · rw [Lib.toList_data]
    intro h
    exact Rd.nm_some (m := 1 + a % 54) (by omega) (by omega) (by
      cases hx : Rd.nm (1 + a % 54) with
      | mk d =>
        rw [hx] at h
        have : d = #[] := by simpa using h
        rw [this])
  · intro h
    have h1 := of_decide_eq_true h
    simp only [Rd.prL, List.mem_cons, List.not_mem_nil, or_false] at h1
    refine ⟨decide_eq_false ?_, by omega⟩
    simp only [Rd.prL, List.mem_cons, List.not_mem_nil, or_false]
    omega
  · rw [Lib.toList_data, Lib.toList_data]
    by_cases c : 1 + a % 54 = 1 + b % 54
    · rw [c]; simp
    · have h1 : ¬ Rd.nm (1 + a % 54) = Rd.nm (1 + b % 54) := fun h => c (Rd.nm_inj (by omega) (by omega) (by omega) (by omega) h)
      have h2 : ¬ (Rd.nm (1 + a % 54)).data.toList = (Rd.nm (1 + b % 54)).data.toList := fun h => h1 (by
        cases hx : Rd.nm (1 + a % 54) with
        | mk d =>
          cases hy : Rd.nm (1 + b % 54) with
          | mk d2 =>
            rw [hx, hy] at h
            have : d = d2 := Array.toList_inj.1 h
            rw [this])
      rw [beq_eq_false_iff_ne.2 h2, beq_eq_false_iff_ne.2 c]
end Go.Proofs.YtoofgalkchnpnaaGreatDoor
