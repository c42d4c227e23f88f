import Derived.Test.YtgojeobnoebnlaaGreatDoorQRC
import Derived.Test.YtgojeobnoebnlaaGreatDoorQEV
import Derived.Test.YtgojeobnoebnlaaGreatDoorQW19r
import Derived.Test.YtgojeobnoebnlaaGreatDoorQWeek
import Derived.Test.YtgojeobnoebnlaaGreatDoorQFeMR
set_option maxHeartbeats 8000000
set_option maxRecDepth 100000
set_option linter.unusedSimpArgs false
set_option linter.unusedVariables false
section
namespace Go.Proofs.YtgojeobnoebnlaaGreatDoor
open Go.ChangeShapes Go.WideShapes Go.ChangeAt Go.RowKit Go.Lib Go.Sort Go.Shelf
theorem Rd.len_all : ((List.range 14).all fun i => [false, true].all fun p => decide ((Rd.cyc0 i p).length ≤ 100)) = true := by decide +kernel
theorem Rd.len_at {i : Nat} (hi : i < 14) (p : Bool) : (Rd.cyc0 i p).length ≤ 100 := by
 have h := List.all_eq_true.1 Rd.len_all i (List.mem_range.2 hi)
 exact of_decide_eq_true (List.all_eq_true.1 h p (by cases p <;> simp))
end Go.Proofs.YtgojeobnoebnlaaGreatDoor
end
section
namespace Go.Proofs.YtgojeobnoebnlaaGreatDoor
open Go.ChangeShapes Go.WideShapes Go.ChangeAt Go.RowKit Go.Lib Go.Sort Go.Shelf
end Go.Proofs.YtgojeobnoebnlaaGreatDoor
end
section
namespace Go.Proofs.YtgojeobnoebnlaaGreatDoor
open Go.ChangeShapes Go.WideShapes Go.ChangeAt Go.RowKit Go.Lib Go.Sort Go.Shelf
end Go.Proofs.YtgojeobnoebnlaaGreatDoor
end
section
namespace Go.Proofs.YtgojeobnoebnlaaGreatDoor
open Go.ChangeShapes Go.WideShapes Go.ChangeAt Go.RowKit Go.Lib Go.Sort Go.Shelf
end Go.Proofs.YtgojeobnoebnlaaGreatDoor
end
section
namespace Go.Proofs.YtgojeobnoebnlaaGreatDoor
open Go.ChangeShapes Go.WideShapes Go.ChangeAt Go.RowKit Go.Lib Go.Sort Go.Shelf
end Go.Proofs.YtgojeobnoebnlaaGreatDoor
end
section
namespace Go.Proofs.YtgojeobnoebnlaaGreatDoor
open Go.ChangeShapes Go.WideShapes Go.ChangeAt Go.RowKit Go.Lib Go.Sort Go.Shelf
end Go.Proofs.YtgojeobnoebnlaaGreatDoor
end
section
namespace Go.Proofs.YtgojeobnoebnlaaGreatDoor
open Go.ChangeShapes Go.WideShapes Go.ChangeAt Go.RowKit Go.Lib Go.Sort Go.Shelf
end Go.Proofs.YtgojeobnoebnlaaGreatDoor
end
section
namespace Go.Proofs.YtgojeobnoebnlaaGreatDoor
open Go.ChangeShapes Go.WideShapes Go.ChangeAt Go.RowKit Go.Lib Go.Sort Go.Shelf
def Rd.In (D : Int) (p : Bool) (y : Int) : Prop := ∃ i i2, Yr.Is y i ∧ Yr.Is (y + 1) i2 ∧ Sb.rj y p < D ∧ D ≤ Sb.rj (y + 1) p
namespace Rd
theorem day_all : ((List.range 14).all fun i => [false, true].all fun p => decide ((cyc0 i p).map (fun x => x.2.2) = Sb.sabs0 i p)) = true := by decide +kernel
theorem day_at {i : Nat} (hi : i < 14) (p : Bool) : (cyc0 i p).map (fun x => x.2.2) = Sb.sabs0 i p := by
 have h := List.all_eq_true.1 day_all i (List.mem_range.2 hi)
 exact of_decide_eq_true (List.all_eq_true.1 h p (by cases p <;> simp))
theorem there {y : Int} {i i2 : Nat} (p : Bool) (D : Int) (h : Yr.Is y i) (h2 : Yr.Is (y + 1) i2) (h3 : Sb.rj y p < D) (h4 : D ≤ Sb.rj (y + 1) p) (h6 : D % 7 = 6) :
  ∃ r1 r2, ((cyc0 i p).map (sh (Cal.first y - kevB i))).find? (onDay D) = some (r1, r2, D) := by
 obtain ⟨n1, n2, n3, n4⟩ := Sb.nSat_ok p h
 have hs := sabs_off p h h2
 have hd := day_at h.2.2.1 p
 have hmem : D ∈ Sb.sabs y p := by
  unfold Sb.sabs sats
  rw [List.mem_map]
  have e0 : Sat.firstSat (Sb.rj y p + 1) = Sb.rj y p + 1 + (6 - (Sb.rj y p + 1)) % 7 := rfl
  refine ⟨((D - Sat.firstSat (Sb.rj y p + 1)) / 7).toNat, List.mem_range.2 ?_, ?_⟩
  ·omega
  ·show Sat.firstSat (Sb.rj y p + 1) + 7 * (((D - Sat.firstSat (Sb.rj y p + 1)) / 7).toNat : Int) = D
   omega
 rw [hs, ← hd, List.map_map, List.mem_map] at hmem
 obtain ⟨x, hx, rfl⟩ := hmem
 have hany : (((cyc0 i p).map (sh (Cal.first y - kevB i))).find? (onDay ((fun d => Cal.first y - kevB i + d) x.2.2))).isSome = true := by
  rw [List.find?_isSome]
  exact ⟨sh (Cal.first y - kevB i) x, List.mem_map.2 ⟨x, hx, rfl⟩, by simp [onDay, sh]⟩
 obtain ⟨⟨r1, r2, r3⟩, hr⟩ := Option.isSome_iff_exists.1 hany
 have h5 := List.find?_some hr
 have h7 : r3 = Cal.first y - kevB i + x.2.2 := by simpa [onDay] using h5
 subst h7
 exact ⟨r1, r2, hr⟩
end Rd
end Go.Proofs.YtgojeobnoebnlaaGreatDoor
end
