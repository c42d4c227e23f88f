import Derived.Test.YtgojeobnoebnlaaGreatDoorQWt0
set_option maxHeartbeats 8000000
set_option maxRecDepth 100000
set_option linter.unusedSimpArgs false
set_option linter.unusedVariables false
namespace Go.Proofs.YtgojeobnoebnlaaGreatDoor
open Go.ChangeShapes Go.WideShapes Go.ChangeAt Go.RowKit Go.Lib Go.Sort Go.Shelf
theorem day_atR (p : Bool) (y m d : Int) (i : Nat) (h : Yr.Is y i) (hv : D10.Valid y m d) (r1 r2 r3 er : Int) (HR : Hid (∀ w : World, Tab w 6 kevCells → Tab w 3 lenCells → Tab w 0 Fe.cells → Calls Tryo.prog 35 #[.int .i64 (D10.dayOf y m d), .int .i64 (if p then 1 else 0)] w fun e w' => e = .returned (.tuple #[.agg #[.int .i64 r1, .int .i64 r2, .int .i64 r3], .int .i64 er]) ∧ Below w.heap.size w w')) : Hid (Dy.saysP p (D10.dayOf y m d) y (Cal.ofN (Cal.leap y) m) (Cal.ofL (Cal.leap y) m) d (Gr.gY (D10.dayOf y m d)) (Gr.gF (D10.dayOf y m d)).1 (Gr.gF (D10.dayOf y m d)).2.1 (Om.val (D10.dayOf y m d - Om.om y)) r1 r2 r3 (Dy.evs i p (Cal.first y))) := by
 have hbd := D10.day_bd hv
 have hD : I64 (D10.dayOf y m d) := ⟨by omega, by omega⟩
 have hlen := Dy.evs_len h.2.2.1 p (Cal.first y)
 refine Lib.hid ?_
 cases p
 ·intro w hT hL hF hA hG
  exact day_Of_go0 (D10.dayOf y m d) y _ d _ _ _ _ _ r1 r2 r3 er _ _ w rfl (by omega) hD hT hL hF hA hG (Lib.hid fun w hT hL => heb_FromDay_at y m d w hT hL hv) (Lib.hid fun w hT hL hF hA => day_Events y i false w h hT hL hF hA) (Lib.hid fun w hG => greg_FromDay_at (D10.dayOf y m d) w hG hbd.1 hbd.2) (Lib.hid fun w hT hL => chodesh_Omer_at y m d w hv hT hL) HR
 ·intro w hT hL hF hA hG
  exact day_Of_go1 (D10.dayOf y m d) y _ d _ _ _ _ _ r1 r2 r3 er _ _ w rfl (by omega) hD hT hL hF hA hG (Lib.hid fun w hT hL => heb_FromDay_at y m d w hT hL hv) (Lib.hid fun w hT hL hF hA => day_Events y i true w h hT hL hF hA) (Lib.hid fun w hG => greg_FromDay_at (D10.dayOf y m d) w hG hbd.1 hbd.2) (Lib.hid fun w hT hL => chodesh_Omer_at y m d w hv hT hL) HR
namespace Dy
theorem sat_in {y : Int} {i : Nat} (p : Bool) (D : Int) (h : Yr.Is y i) (hm : D ∈ Sb.sabs y p) : Sb.rj y p < D ∧ D ≤ Sb.rj (y + 1) p ∧ D % 7 = 6 := by
 obtain ⟨n1, n2, n3, n4⟩ := Sb.nSat_ok p h
 unfold Sb.sabs sats at hm
 obtain ⟨q, hq, rfl⟩ := List.mem_map.1 hm
 have e0 : Sat.firstSat (Sb.rj y p + 1) = Sb.rj y p + 1 + (6 - (Sb.rj y p + 1)) % 7 := rfl
 have h1 := n1 q (List.mem_range.1 hq)
 refine ⟨?_, h1, ?_⟩
 ·show Sb.rj y p < Sat.firstSat (Sb.rj y p + 1) + 7 * (q : Int)
  omega
 ·show (Sat.firstSat (Sb.rj y p + 1) + 7 * (q : Int)) % 7 = 6
  omega
theorem in_yr (y D : Int) (h1 : 1 ≤ y) (h2 : y ≤ 9999) (f1 : Cal.first y ≤ D) (f2 : D < Cal.first (y + 1)) : ∃ m d, D10.Valid y m d ∧ D = D10.dayOf y m d := by
 obtain ⟨m, d, m1, m2, d1, d2, e⟩ := D10.ahead_there y (D - Cal.first y + 1) h1 h2 (by omega) (by unfold Cal.long; omega)
 exact ⟨m, d, ⟨h1, h2, m1, m2, d1, d2⟩, by unfold D10.dayOf; omega⟩
end Dy
theorem tor_says (k : Int) (i i2 : Nat) (p : Bool) (h : Yr.Is k i) (h2 : Yr.Is (k + 1) i2) (j : Nat) (r1 r2 D : Int) (hj : ((Rd.cyc0 i p).map (Rd.sh (Cal.first k - kevB i)))[j]? = some (r1, r2, D)) :
  ∃ (f2 f3 : Int) (f4 : Bool) (f5 f6 f7 f8 f10 : Int) (Ks : List Int), Ks.any Fe.restV = decide (r2 = 0) ∧ Ks.length ≤ 240 ∧ Hid (∀ w : World, Tab w 6 kevCells → Tab w 3 lenCells → Tab w 0 Fe.cells → Tab w 1 Fa.cells → Tab w 5 Gr.gregCells → Calls Tryo.prog 16 #[.int .i64 D, .int .i64 (if p then 1 else 0)] w fun e w' => ∃ v, e = .returned (.tuple #[.agg #[.int .i64 D, .int .i64 f2, .int .i64 f3, .bool f4, .int .i64 f5, .int .i64 f6, .int .i64 f7, .int .i64 f8, .int .i64 6, .int .i64 f10, v, .int .i64 r1, .int .i64 r2, .int .i64 D], .int .i64 0]) ∧ Il.Row w' v Ks ∧ Below w.heap.size w w') := by
 have hi := h.2.2.1
 rw [List.getElem?_map] at hj
 obtain ⟨x, hx, hxe⟩ := Option.map_eq_some_iff.1 hj
 obtain ⟨a, b, d0⟩ := x
 have hmem := List.mem_of_getElem? hx
 have hxe' : (a, b, Cal.first k - kevB i + d0) = (r1, r2, D) := hxe
 simp only [Prod.mk.injEq] at hxe'
 obtain ⟨rfl, rfl, rfl⟩ := hxe'
 have hpm : p ∈ [false, true] := by cases p <;> simp
 have hu := List.all_eq_true.1 (List.all_eq_true.1 (List.all_eq_true.1 Dy.uni_all i (List.mem_range.2 hi)) p hpm) _ hmem
 have hrs := List.all_eq_true.1 (List.all_eq_true.1 (List.all_eq_true.1 Dy.rest_all i (List.mem_range.2 hi)) p hpm) _ hmem
 have hu' := of_decide_eq_true hu
 dsimp only at hu' hrs
 have hX : ((Rd.cyc0 i p).map (Rd.sh (Cal.first k - kevB i))).find? (Rd.onDay (Cal.first k - kevB i + d0)) = some (a, b, Cal.first k - kevB i + d0) := by
  rw [List.find?_map]
  have e : (Rd.onDay (Cal.first k - kevB i + d0) ∘ Rd.sh (Cal.first k - kevB i)) = Rd.onDay d0 := by
   funext z
   simp only [Function.comp_def, Rd.onDay, Rd.sh]
   rw [Bool.eq_iff_iff, beq_iff_eq, beq_iff_eq]
   omega
  rw [e, hu']
  rfl
 have hsab : (Cal.first k - kevB i + d0) ∈ Sb.sabs k p := by
  rw [Rd.sabs_off p h h2, ← Rd.day_at hi p, List.map_map, List.mem_map]
  exact ⟨_, hmem, rfl⟩
 obtain ⟨s1, s2, s3⟩ := Dy.sat_in p _ h hsab
 have hn := Yr.next_first h
 have hn2 := Yr.next_first h2
 have hlv := Sb.lenV_bd i hi
 have hlv2 := Sb.lenV_bd i2 h2.2.2.1
 have hlc := Rd.len_at hi p
 have HR : Hid (∀ w : World, Tab w 6 kevCells → Tab w 3 lenCells → Tab w 0 Fe.cells → Calls Tryo.prog 35 #[.int .i64 (Cal.first k - kevB i + d0), .int .i64 (if p then 1 else 0)] w fun e w' => e = .returned (.tuple #[.agg #[.int .i64 a, .int .i64 b, .int .i64 (Cal.first k - kevB i + d0)], .int .i64 0]) ∧ Below w.heap.size w w') := Lib.hid fun w hT hL hF => rd_Of k i i2 p _ a b w h h2 s1 s2 s3 hX hlc hT hL hF
 have hm7 : Cal.first k % 7 = kevB i := h.2.2.2.1
 have hm8 : Cal.first (k + 1) % 7 = kevB i2 := h2.2.2.2.1
 simp only [Bool.and_eq_true, decide_eq_true_eq] at hrs
 obtain ⟨hr0, hrs⟩ := hrs
 by_cases hc : d0 - kevB i < Yr.lenV i
 ·rw [if_pos hc] at hrs
  obtain ⟨m, d, hv, hD⟩ := Dy.in_yr k (Cal.first k - kevB i + d0) h.1 h.2.1 (by omega) (by omega)
  rw [hD] at HR ⊢
  have HS := day_atR p k m d i h hv _ _ _ _ HR
  have T := HS.out
  unfold Dy.saysP at T
  rw [show D10.dayOf k m d % 7 = 6 by omega] at T
  refine ⟨_, _, _, _, _, _, _, _, _, ?_, ?_, Lib.hid T⟩
  ·rw [Dy.on_rest, show D10.dayOf k m d - Cal.first k = d0 - kevB i by omega]
   exact beq_iff_eq.1 hrs
  ·exact Nat.le_trans (Ev.on_len _ _) (Dy.evs_len hi p _)
 ·rw [if_neg hc] at hrs
  simp only [Bool.and_eq_true, decide_eq_true_eq] at hrs
  obtain ⟨hc2, hrs⟩ := hrs
  have hr2 := List.all_eq_true.1 hrs i2 (List.mem_range.2 h2.2.2.1)
  rw [show decide (kevB i2 = (kevB i + Yr.lenV i) % 7) = true from decide_eq_true (by omega)] at hr2
  simp only [Bool.not_true, Bool.false_or] at hr2
  obtain ⟨m, d, hv, hD⟩ := Dy.in_yr (k + 1) (Cal.first k - kevB i + d0) h2.1 h2.2.1 (by omega) (by omega)
  rw [hD] at HR ⊢
  have HS := day_atR p (k + 1) m d i2 h2 hv _ _ _ _ HR
  have T := HS.out
  unfold Dy.saysP at T
  rw [show D10.dayOf (k + 1) m d % 7 = 6 by omega] at T
  refine ⟨_, _, _, _, _, _, _, _, _, ?_, ?_, Lib.hid T⟩
  ·rw [Dy.on_rest, show D10.dayOf (k + 1) m d - Cal.first (k + 1) = d0 - kevB i - Yr.lenV i by omega]
   exact beq_iff_eq.1 hr2
  ·exact Nat.le_trans (Ev.on_len _ _) (Dy.evs_len h2.2.2.1 p _)
end Go.Proofs.YtgojeobnoebnlaaGreatDoor
