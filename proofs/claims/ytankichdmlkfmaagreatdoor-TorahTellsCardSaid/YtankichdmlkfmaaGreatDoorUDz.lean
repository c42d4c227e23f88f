/- Layer 24: the reading of any day, the program's. -/
import Derived.Test.YtankichdmlkfmaaGreatDoorUTj
import Derived.Test.YtankichdmlkfmaaGreatDoorUW24
set_option linter.unusedSimpArgs false
set_option linter.unusedVariables false
namespace Go.Proofs.YtankichdmlkfmaaGreatDoor
open Go.ChangeShapes Go.WideShapes Go.ChangeAt Go.RowKit Go.Lib Go.Sort Go.Shelf
set_option maxRecDepth 100000
set_option maxHeartbeats 4000000 in
theorem rd_Of_err (D pl y er : Int) (w : World) (her : er ≠ 0) (hT : Tab w 7 kevCells) (hL : Tab w 6 lenCells) (hF : Tab w 2 Fe.cells)
  (HC : Hid (∀ w : World, Tab w 7 kevCells → Tab w 6 lenCells → Tab w 2 Fe.cells → Calls Tryo.prog 41 #[.int .i64 D, .int .i64 pl] w fun e w' => e = .returned (.tuple #[.int .i64 y, .int .i64 er]) ∧ Below w.heap.size w w')) :
  Calls Tryo.prog 9 #[.int .i64 D, .int .i64 pl] w fun e w' => e = .returned (.tuple #[.agg #[.int .i64 0, .int .i64 0, .int .i64 0], .int .i64 er]) ∧ Below w.heap.size w w' := by
 have d0 : decide (er = 0) = false := decide_eq_false her
 go_enter Tryo.func9, Tryz.ntmps9
 go_wp2_with fail
 refine (HC.out _ (Tab.below hT bel) (Tab.below hL bel) (Tab.below hF bel)).mono ?_
 rintro e w1 ⟨rfl, hb1⟩
 have hB1 : Below w.heap.size w w1 := bel
 obtain ⟨hc1, hf1⟩ := bcell hb1
 have hz1 := hb1.size
 simp at hz1
 have g1 : w1.cell? ⟨w.heap.size, 0, none⟩ = some (.int .i64 0) := (hc1 _ _ (by simp)).trans (by simp [go_sem])
 have g2 : w1.cell? ⟨w.heap.size, 1, none⟩ = some (.int .i64 0) := (hc1 _ _ (by simp)).trans (by simp [go_sem])
 have g3 : w1.cell? ⟨w.heap.size, 2, none⟩ = some (.int .i64 0) := (hc1 _ _ (by simp)).trans (by simp [go_sem])
 have g4 : ∀ i, w1.frozen? ⟨w.heap.size, i, none⟩ = false := fun i => (hf1 _ _ (by simp)).trans (by simp [go_sem])
 clear hc1 hf1
 go_wp2_with fail
 refine bodyPost_ret (v := .tuple #[.agg #[.int .i64 0, .int .i64 0, .int .i64 0], .int .i64 er]) (by simp [results, Tryz.results9, go_sem, *]) rfl ?_
 refine ⟨rfl, ?_⟩
 exact bel
theorem sab_isCycle_no (y : Int) (w : World) (h : y < 1 ∨ 9998 < y) :
  Calls Tryo.prog 92 #[.int .i64 y] w fun e w' => e = .returned (.bool false) ∧ w = w' := by
 rcases h with h | h
 ·exact sab_isCycle_lo y w h
 ·exact sab_isCycle_hi y w h
/-- A day's cycle in a place, where it has one. -/
def Rd.In (D : Int) (p : Bool) (y : Int) : Prop := ∃ i i2, Yr.Is y i ∧ Yr.Is (y + 1) i2 ∧ Sb.rj y p < D ∧ D ≤ Sb.rj (y + 1) p
namespace Rd
theorem day_all : ((List.range 14).all fun i => [false, true].all fun p => decide ((cyc0 i p).map (fun x => x.2.2) = Sb.sabs0 i p)) = true := by decide +kernel
theorem day_at {i : Nat} (hi : i < 14) (p : Bool) : (cyc0 i p).map (fun x => x.2.2) = Sb.sabs0 i p := by
 have h := List.all_eq_true.1 day_all i (List.mem_range.2 hi)
 exact of_decide_eq_true (List.all_eq_true.1 h p (by cases p <;> simp))
/-- A Saturday of a cycle is told of. -/
theorem there {y : Int} {i i2 : Nat} (p : Bool) (D : Int) (h : Yr.Is y i) (h2 : Yr.Is (y + 1) i2) (h3 : Sb.rj y p < D) (h4 : D ≤ Sb.rj (y + 1) p) (h6 : D % 7 = 6) :
  ∃ r1 r2, ((cyc0 i p).map (sh (Cal.first y - kevB i))).find? (onDay D) = some (r1, r2, D) := by
 obtain ⟨n1, n2, n3, n4⟩ := Sb.nSat_ok p h
 have hs := sabs_off p h h2
 have hd := day_at h.2.2.1 p
 have hmem : D ∈ Sb.sabs y p := by
  unfold Sb.sabs sats
  rw [List.mem_map]
  have e0 : Sat.firstSat (Sb.rj y p + 1) = Sb.rj y p + 1 + (6 - (Sb.rj y p + 1)) % 7 := rfl
  refine ⟨((D - Sat.firstSat (Sb.rj y p + 1)) / 7).toNat, List.mem_range.2 ?_, ?_⟩
  ·omega
  ·show Sat.firstSat (Sb.rj y p + 1) + 7 * (((D - Sat.firstSat (Sb.rj y p + 1)) / 7).toNat : Int) = D
   omega
 rw [hs, ← hd, List.map_map, List.mem_map] at hmem
 obtain ⟨x, hx, rfl⟩ := hmem
 have hany : (((cyc0 i p).map (sh (Cal.first y - kevB i))).find? (onDay ((fun d => Cal.first y - kevB i + d) x.2.2))).isSome = true := by
  rw [List.find?_isSome]
  exact ⟨sh (Cal.first y - kevB i) x, List.mem_map.2 ⟨x, hx, rfl⟩, by simp [onDay, sh]⟩
 obtain ⟨⟨r1, r2, r3⟩, hr⟩ := Option.isSome_iff_exists.1 hany
 have h5 := List.find?_some hr
 have h7 : r3 = Cal.first y - kevB i + x.2.2 := by simpa [onDay] using h5
 subst h7
 exact ⟨r1, r2, hr⟩
end Rd
end Go.Proofs.YtankichdmlkfmaaGreatDoor
