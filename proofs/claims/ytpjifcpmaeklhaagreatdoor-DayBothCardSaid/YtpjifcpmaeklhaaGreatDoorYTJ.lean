import Derived.Test.YtpjifcpmaeklhaaGreatDoorYRC
import Derived.Test.YtpjifcpmaeklhaaGreatDoorYEV
import Derived.Test.YtpjifcpmaeklhaaGreatDoorYW19r
import Derived.Test.YtpjifcpmaeklhaaGreatDoorYWeek
import Derived.Test.YtpjifcpmaeklhaaGreatDoorYFeMR
set_option maxHeartbeats 8000000
set_option maxRecDepth 100000
set_option linter.unusedSimpArgs false
set_option linter.unusedVariables false
section
namespace Go.Proofs.YtpjifcpmaeklhaaGreatDoor
open Go.ChangeShapes Go.WideShapes Go.ChangeAt Go.RowKit Go.Lib Go.Sort Go.Shelf
theorem sab_isCycle_lo (y : Int) (w : World) (h2 : y < 1) :
  Calls Tryo.prog 76 #[.int .i64 y] w fun e w' => e = .returned (.bool false) ∧ w = w' := by
 have h1 : ¬ 1 ≤ y := by omega
 have d1 : decide (1 ≤ y) = false := decide_eq_false h1
 go_enter Tryo.func76, Tryz.ntmps76
 go_wp2_with fail
 go_ret
 exact ⟨rfl, rfl⟩
theorem Rd.len_all : ((List.range 14).all fun i => [false, true].all fun p => decide ((Rd.cyc0 i p).length ≤ 100)) = true := by decide +kernel
theorem Rd.len_at {i : Nat} (hi : i < 14) (p : Bool) : (Rd.cyc0 i p).length ≤ 100 := by
 have h := List.all_eq_true.1 Rd.len_all i (List.mem_range.2 hi)
 exact of_decide_eq_true (List.all_eq_true.1 h p (by cases p <;> simp))
end Go.Proofs.YtpjifcpmaeklhaaGreatDoor
end
section
namespace Go.Proofs.YtpjifcpmaeklhaaGreatDoor
open Go.ChangeShapes Go.WideShapes Go.ChangeAt Go.RowKit Go.Lib Go.Sort Go.Shelf
end Go.Proofs.YtpjifcpmaeklhaaGreatDoor
end
section
namespace Go.Proofs.YtpjifcpmaeklhaaGreatDoor
open Go.ChangeShapes Go.WideShapes Go.ChangeAt Go.RowKit Go.Lib Go.Sort Go.Shelf
end Go.Proofs.YtpjifcpmaeklhaaGreatDoor
end
section
namespace Go.Proofs.YtpjifcpmaeklhaaGreatDoor
open Go.ChangeShapes Go.WideShapes Go.ChangeAt Go.RowKit Go.Lib Go.Sort Go.Shelf
end Go.Proofs.YtpjifcpmaeklhaaGreatDoor
end
section
namespace Go.Proofs.YtpjifcpmaeklhaaGreatDoor
open Go.ChangeShapes Go.WideShapes Go.ChangeAt Go.RowKit Go.Lib Go.Sort Go.Shelf
end Go.Proofs.YtpjifcpmaeklhaaGreatDoor
end
section
namespace Go.Proofs.YtpjifcpmaeklhaaGreatDoor
open Go.ChangeShapes Go.WideShapes Go.ChangeAt Go.RowKit Go.Lib Go.Sort Go.Shelf
end Go.Proofs.YtpjifcpmaeklhaaGreatDoor
end
section
namespace Go.Proofs.YtpjifcpmaeklhaaGreatDoor
open Go.ChangeShapes Go.WideShapes Go.ChangeAt Go.RowKit Go.Lib Go.Sort Go.Shelf
theorem sab_Cycle_er (D pl yd n d er : Int) (lf : Bool) (w : World) (her : er ≠ 0) (hT : Tab w 4 kevCells) (hL : Tab w 3 lenCells) (hF : Tab w 0 Fe.cells) (HP : Hid (∀ w : World, Calls Tryo.prog 74 #[.int .i64 pl] w fun e w' => e = .returned (.bool true) ∧ w = w')) (HF : Hid (∀ w : World, Tab w 4 kevCells → Tab w 3 lenCells → Calls Tryo.prog 11 #[.int .i64 D] w fun e w' => e = .returned (.tuple #[.agg #[.int .i64 yd, .int .i64 n, .bool lf, .int .i64 d], .int .i64 er]) ∧ Below w.heap.size w w')) :
  Calls Tryo.prog 41 #[.int .i64 D, .int .i64 pl] w fun e w' => e = .returned (.tuple #[.int .i64 0, .int .i64 er]) ∧ Below w.heap.size w w' := by
 have d0 : decide (er = 0) = false := decide_eq_false her
 go_enter Tryo.func41, Tryz.ntmps41
 go_wp2_with fail
 refine (HP.out _).mono ?_
 rintro e w' ⟨rfl, rfl⟩
 go_wp2_with fail
 refine (HF.out _ (Tab.below hT bel) (Tab.below hL bel)).mono ?_
 rintro e w1 ⟨rfl, hb1⟩
 go_wp2_with fail
 go_ret2
 refine ⟨rfl, ?_⟩
 exact bel
theorem sab_Cycle_lo_f (D pl yd n d S c : Int) (lf : Bool) (w : World) (y1 : 1 ≤ yd) (y2 : yd ≤ 9999) (hc : c = yd - 1) (hs : D ≤ S) (hT : Tab w 4 kevCells) (hL : Tab w 3 lenCells) (hF : Tab w 0 Fe.cells) (HP : Hid (∀ w : World, Calls Tryo.prog 74 #[.int .i64 pl] w fun e w' => e = .returned (.bool true) ∧ w = w')) (HF : Hid (∀ w : World, Tab w 4 kevCells → Tab w 3 lenCells → Calls Tryo.prog 11 #[.int .i64 D] w fun e w' => e = .returned (.tuple #[.agg #[.int .i64 yd, .int .i64 n, .bool lf, .int .i64 d], .int .i64 0]) ∧ Below w.heap.size w w')) (HR : Hid (∀ w : World, Tab w 4 kevCells → Tab w 3 lenCells → Tab w 0 Fe.cells → Calls Tryo.prog 75 #[.int .i64 yd, .int .i64 pl] w fun e w' => e = .returned (.int .i64 S) ∧ Below w.heap.size w w')) (HC : Hid (∀ w : World, Calls Tryo.prog 76 #[.int .i64 c] w fun e w' => e = .returned (.bool false) ∧ w = w')) :
  Calls Tryo.prog 41 #[.int .i64 D, .int .i64 pl] w fun e w' => e = .returned (.tuple #[.int .i64 0, .int .i64 2]) ∧ Below w.heap.size w w' := by
 have e1 : decide (D ≤ S) = true := decide_eq_true hs
 subst c
 go_enter Tryo.func41, Tryz.ntmps41
 go_wp2_with fail
 refine (HP.out _).mono ?_
 rintro e w' ⟨rfl, rfl⟩
 go_wp2_with fail
 refine (HF.out _ (Tab.below hT bel) (Tab.below hL bel)).mono ?_
 rintro e w1 ⟨rfl, hb1⟩
 go_wp2_with fail
 refine (HR.out _ (Tab.below hT bel) (Tab.below hL bel) (Tab.below hF bel)).mono ?_
 rintro e w2 ⟨rfl, hb2⟩
 obtain ⟨hc2, hf2⟩ := bcell hb2
 have hz2 := hb2.size
 try simp at hz2
 have hl2w1 : w1.heap.size < w2.heap.size := by omega
 have hm2w1 : w1.heap.size ≤ w2.heap.size := by omega
 have g2x0 : w2.cell? ⟨w1.heap.size, 0, none⟩ = some (.int .i64 yd) := cel hc2
 go_wp2_with fail
 refine (HC.out _).mono ?_
 rintro e w' ⟨rfl, rfl⟩
 go_wp2_with fail
 go_ret2
 refine ⟨rfl, ?_⟩
 exact bel
theorem sab_Cycle_hi_f (D pl yd n d S c : Int) (lf : Bool) (w : World) (y1 : 1 ≤ yd) (y2 : yd ≤ 9999) (hc : c = yd) (hs : ¬ D ≤ S) (hT : Tab w 4 kevCells) (hL : Tab w 3 lenCells) (hF : Tab w 0 Fe.cells) (HP : Hid (∀ w : World, Calls Tryo.prog 74 #[.int .i64 pl] w fun e w' => e = .returned (.bool true) ∧ w = w')) (HF : Hid (∀ w : World, Tab w 4 kevCells → Tab w 3 lenCells → Calls Tryo.prog 11 #[.int .i64 D] w fun e w' => e = .returned (.tuple #[.agg #[.int .i64 yd, .int .i64 n, .bool lf, .int .i64 d], .int .i64 0]) ∧ Below w.heap.size w w')) (HR : Hid (∀ w : World, Tab w 4 kevCells → Tab w 3 lenCells → Tab w 0 Fe.cells → Calls Tryo.prog 75 #[.int .i64 yd, .int .i64 pl] w fun e w' => e = .returned (.int .i64 S) ∧ Below w.heap.size w w')) (HC : Hid (∀ w : World, Calls Tryo.prog 76 #[.int .i64 c] w fun e w' => e = .returned (.bool false) ∧ w = w')) :
  Calls Tryo.prog 41 #[.int .i64 D, .int .i64 pl] w fun e w' => e = .returned (.tuple #[.int .i64 0, .int .i64 2]) ∧ Below w.heap.size w w' := by
 have e1 : decide (D ≤ S) = false := decide_eq_false hs
 subst c
 go_enter Tryo.func41, Tryz.ntmps41
 go_wp2_with fail
 refine (HP.out _).mono ?_
 rintro e w' ⟨rfl, rfl⟩
 go_wp2_with fail
 refine (HF.out _ (Tab.below hT bel) (Tab.below hL bel)).mono ?_
 rintro e w1 ⟨rfl, hb1⟩
 go_wp2_with fail
 refine (HR.out _ (Tab.below hT bel) (Tab.below hL bel) (Tab.below hF bel)).mono ?_
 rintro e w2 ⟨rfl, hb2⟩
 obtain ⟨hc2, hf2⟩ := bcell hb2
 have hz2 := hb2.size
 try simp at hz2
 have hl2w1 : w1.heap.size < w2.heap.size := by omega
 have hm2w1 : w1.heap.size ≤ w2.heap.size := by omega
 have g2x0 : w2.cell? ⟨w1.heap.size, 0, none⟩ = some (.int .i64 yd) := cel hc2
 go_wp2_with fail
 refine (HC.out _).mono ?_
 rintro e w' ⟨rfl, rfl⟩
 go_wp2_with fail
 go_ret2
 refine ⟨rfl, ?_⟩
 exact bel
end Go.Proofs.YtpjifcpmaeklhaaGreatDoor
end
section
namespace Go.Proofs.YtpjifcpmaeklhaaGreatDoor
open Go.ChangeShapes Go.WideShapes Go.ChangeAt Go.RowKit Go.Lib Go.Sort Go.Shelf
theorem rd_Of_err (D pl y er : Int) (w : World) (her : er ≠ 0) (hT : Tab w 4 kevCells) (hL : Tab w 3 lenCells) (hF : Tab w 0 Fe.cells)
  (HC : Hid (∀ w : World, Tab w 4 kevCells → Tab w 3 lenCells → Tab w 0 Fe.cells → Calls Tryo.prog 41 #[.int .i64 D, .int .i64 pl] w fun e w' => e = .returned (.tuple #[.int .i64 y, .int .i64 er]) ∧ Below w.heap.size w w')) :
  Calls Tryo.prog 16 #[.int .i64 D, .int .i64 pl] w fun e w' => e = .returned (.tuple #[.agg #[.int .i64 0, .int .i64 0, .int .i64 0], .int .i64 er]) ∧ Below w.heap.size w w' := by
 have d0 : decide (er = 0) = false := decide_eq_false her
 go_enter Tryo.func16, Tryz.ntmps16
 go_wp2_with fail
 refine (HC.out _ (Tab.below hT bel) (Tab.below hL bel) (Tab.below hF bel)).mono ?_
 rintro e w1 ⟨rfl, hb1⟩
 have hB1 : Below w.heap.size w w1 := bel
 obtain ⟨hc1, hf1⟩ := bcell hb1
 have hz1 := hb1.size
 simp at hz1
 have g1 : w1.cell? ⟨w.heap.size, 0, none⟩ = some (.int .i64 0) := (hc1 _ _ (by simp)).trans (by simp [go_sem])
 have g2 : w1.cell? ⟨w.heap.size, 1, none⟩ = some (.int .i64 0) := (hc1 _ _ (by simp)).trans (by simp [go_sem])
 have g3 : w1.cell? ⟨w.heap.size, 2, none⟩ = some (.int .i64 0) := (hc1 _ _ (by simp)).trans (by simp [go_sem])
 have g4 : ∀ i, w1.frozen? ⟨w.heap.size, i, none⟩ = false := fun i => (hf1 _ _ (by simp)).trans (by simp [go_sem])
 clear hc1 hf1
 go_wp2_with fail
 refine bodyPost_ret (v := .tuple #[.agg #[.int .i64 0, .int .i64 0, .int .i64 0], .int .i64 er]) (by simp [results, Tryz.results16, go_sem, *]) rfl ?_
 refine ⟨rfl, ?_⟩
 exact bel
theorem sab_isCycle_no (y : Int) (w : World) (h : y < 1 ∨ 9998 < y) :
  Calls Tryo.prog 76 #[.int .i64 y] w fun e w' => e = .returned (.bool false) ∧ w = w' := by
 rcases h with h | h
 ·exact sab_isCycle_lo y w h
 ·exact sab_isCycle_hi y w h
def Rd.In (D : Int) (p : Bool) (y : Int) : Prop := ∃ i i2, Yr.Is y i ∧ Yr.Is (y + 1) i2 ∧ Sb.rj y p < D ∧ D ≤ Sb.rj (y + 1) p
theorem Rd.caseP (D : Int) (p : Bool) : (∃ y, Rd.In D p y) ∨ Hid (∀ w : World, Tab w 4 kevCells → Tab w 3 lenCells → Tab w 0 Fe.cells → Calls Tryo.prog 41 #[.int .i64 D, .int .i64 (if p then 1 else 0)] w fun e w' => e = .returned (.tuple #[.int .i64 0, .int .i64 2]) ∧ Below w.heap.size w w') := by
 have HPs := Lib.hid (fun w => sab_isPlace p w)
 by_cases hr : D < -1373427 ∨ 2278650 < D
 ·exact .inr (Lib.hid fun w hT hL hF => sab_Cycle_er D _ 0 0 0 2 false w (by decide) hT hL hF HPs (Lib.hid fun w hT hL => heb_FromDay_no D w hr))
 ·obtain ⟨yd, m, d, hv, rfl⟩ := D10.day_there D (by omega) (by omega)
  obtain ⟨g1, g2⟩ := D10.day_in hv
  have v1 := hv.1
  have v2 := hv.2.1
  have HFs := Lib.hid (fun w hT hL => heb_FromDay_at yd m d w hT hL hv)
  obtain ⟨i, hi⟩ := Yr.is_some yd v1 v2
  have HRs := Lib.hid (fun w hT hL hF => sab_rejoice yd i p w hi hT hL hF)
  have o := Sb.rjO_bd p
  generalize D10.dayOf yd m d = D at *
  by_cases hs : D ≤ Sb.rj yd p
  ·by_cases hc : 1 ≤ yd - 1
   ·left
    obtain ⟨i0, h0⟩ := Yr.is_some (yd - 1) hc (by omega)
    have hn := Yr.next_first h0
    have hb := Sb.lenV_bd i0 h0.2.2.1
    rw [show yd - 1 + 1 = yd by omega] at hn
    refine ⟨yd - 1, i0, i, h0, by rw [show yd - 1 + 1 = yd by omega]; exact hi, ?_, by rw [show yd - 1 + 1 = yd by omega]; exact hs⟩
    unfold Sb.rj
    omega
   ·exact .inr (Lib.hid fun w hT hL hF => sab_Cycle_lo_f D _ yd _ d _ (yd - 1) _ w v1 v2 rfl hs hT hL hF HPs HFs HRs (Lib.hid fun w => sab_isCycle_no (yd - 1) w (by omega)))
  ·by_cases hc : yd ≤ 9998
   ·left
    obtain ⟨i2, h2⟩ := Yr.is_some (yd + 1) (by omega) (by omega)
    refine ⟨yd, i, i2, hi, h2, by omega, ?_⟩
    unfold Sb.rj
    omega
   ·exact .inr (Lib.hid fun w hT hL hF => sab_Cycle_hi_f D _ yd _ d _ yd _ w v1 v2 rfl hs hT hL hF HPs HFs HRs (Lib.hid fun w => sab_isCycle_no yd w (by omega)))
namespace Rd
theorem day_all : ((List.range 14).all fun i => [false, true].all fun p => decide ((cyc0 i p).map (fun x => x.2.2) = Sb.sabs0 i p)) = true := by decide +kernel
theorem day_at {i : Nat} (hi : i < 14) (p : Bool) : (cyc0 i p).map (fun x => x.2.2) = Sb.sabs0 i p := by
 have h := List.all_eq_true.1 day_all i (List.mem_range.2 hi)
 exact of_decide_eq_true (List.all_eq_true.1 h p (by cases p <;> simp))
theorem there {y : Int} {i i2 : Nat} (p : Bool) (D : Int) (h : Yr.Is y i) (h2 : Yr.Is (y + 1) i2) (h3 : Sb.rj y p < D) (h4 : D ≤ Sb.rj (y + 1) p) (h6 : D % 7 = 6) :
  ∃ r1 r2, ((cyc0 i p).map (sh (Cal.first y - kevB i))).find? (onDay D) = some (r1, r2, D) := by
 obtain ⟨n1, n2, n3, n4⟩ := Sb.nSat_ok p h
 have hs := sabs_off p h h2
 have hd := day_at h.2.2.1 p
 have hmem : D ∈ Sb.sabs y p := by
  unfold Sb.sabs sats
  rw [List.mem_map]
  have e0 : Sat.firstSat (Sb.rj y p + 1) = Sb.rj y p + 1 + (6 - (Sb.rj y p + 1)) % 7 := rfl
  refine ⟨((D - Sat.firstSat (Sb.rj y p + 1)) / 7).toNat, List.mem_range.2 ?_, ?_⟩
  ·omega
  ·show Sat.firstSat (Sb.rj y p + 1) + 7 * (((D - Sat.firstSat (Sb.rj y p + 1)) / 7).toNat : Int) = D
   omega
 rw [hs, ← hd, List.map_map, List.mem_map] at hmem
 obtain ⟨x, hx, rfl⟩ := hmem
 have hany : (((cyc0 i p).map (sh (Cal.first y - kevB i))).find? (onDay ((fun d => Cal.first y - kevB i + d) x.2.2))).isSome = true := by
  rw [List.find?_isSome]
  exact ⟨sh (Cal.first y - kevB i) x, List.mem_map.2 ⟨x, hx, rfl⟩, by simp [onDay, sh]⟩
 obtain ⟨⟨r1, r2, r3⟩, hr⟩ := Option.isSome_iff_exists.1 hany
 have h5 := List.find?_some hr
 have h7 : r3 = Cal.first y - kevB i + x.2.2 := by simpa [onDay] using h5
 subst h7
 exact ⟨r1, r2, hr⟩
end Rd
end Go.Proofs.YtpjifcpmaeklhaaGreatDoor
end
