import Derived.Test.YtpjifcpmaeklhaaGreatDoorYHE
import Derived.Test.YtpjifcpmaeklhaaGreatDoorYBB
set_option maxHeartbeats 8000000
set_option maxRecDepth 100000
set_option linter.unusedVariables false
section
namespace Go.Proofs.YtpjifcpmaeklhaaGreatDoor
open Go.ChangeShapes Go.WideShapes Go.ChangeAt Go.RowKit
end Go.Proofs.YtpjifcpmaeklhaaGreatDoor
end
section
namespace Go.Proofs.YtpjifcpmaeklhaaGreatDoor
open Go.ChangeShapes Go.WideShapes Go.ChangeAt Go.RowKit
def KevAt (w : World) (g : Nat) (b k : Int) (lp : Bool) : Prop := w.cell? ⟨g, 0, none⟩ = some (.int .i64 b) ∧ w.cell? ⟨g, 1, none⟩ = some (.int .i64 k) ∧ w.cell? ⟨g, 2, none⟩ = some (.bool lp) ∧ g < w.heap.size
theorem KevAt.below {w w' : World} {g : Nat} {b k : Int} {lp : Bool} (h : KevAt w g b k lp) (hb : Below w.heap.size w w') : KevAt w' g b k lp := by
 obtain ⟨h0, h1, h2, hs⟩ := h
 have c := fun i => hb.cell (p := ⟨g, i, none⟩) hs
 exact ⟨(c 0).trans h0, (c 1).trans h1, (c 2).trans h2, Nat.lt_of_lt_of_le hs hb.size⟩
theorem ref10_FromDay_at (y m d : Int) (w : World) (hv : D10.Valid y m d) :
  Calls Tryo.prog 6 #[.int .i64 (D10.dayOf y m d)] w fun e w' => e = .returned (.tuple #[.agg #[.int .i64 y, .int .i64 (Cal.ofN (Cal.leap y) m), .bool (Cal.ofL (Cal.leap y) m), .int .i64 d], .int .i64 0]) ∧ Below w.heap.size w w' := by
 have hin := D10.day_in hv
 have hbd := D10.day_bd hv
 have h1 := hv.1
 have h2 := hv.2.1
 have hfb := first_bd y (by omega) (by omega)
 have HY := Lib.hid (fun w => ref6_Year_at (D10.dayOf y m d) y w hv.1 hv.2.1 hin.1 hin.2 hbd.1 hbd.2)
 have HK := Lib.hid (fun w => ref7_Of_ok y w h1 h2)
 have HF := Lib.hid (fun w => ref5_First_ok y w (by omega) (by omega))
 have HO := Lib.hid (fun w => ref9_Of_any (Cal.leap y) m w (by have := hv.2.2.2.1; unfold Cal.most at this; split at this <;> omega))
 have hF := D10.day_find hv
 have hD : ∀ w, Calls Tryo.prog 20 #[.agg #[.int .i64 (Cal.first y % 7), .int .i64 (Cal.kind y), .bool (Cal.leap y)], .int .i64 (D10.dayOf y m d - Cal.first y + 1)] w fun e w' => e = .returned (.tuple #[.int .i64 m, .int .i64 d, .bool true]) ∧ Below w.heap.size w w' := fun w => by
  have := ref8_Find (Cal.first y % 7) (Cal.kind y) (Cal.leap y) (D10.dayOf y m d - Cal.first y + 1) w (by omega)
  rwa [hF] at this
 have HD := Lib.hid hD
 clear hF hD
 generalize D10.dayOf y m d = D at *
 generalize Cal.ofN (Cal.leap y) m = cn at *
 generalize Cal.ofL (Cal.leap y) m = cl at *
 generalize Cal.ofOk (Cal.leap y) m = co at *
 generalize Cal.first y % 7 = kb at *
 generalize Cal.first y = fy at *
 generalize Cal.kind y = kk at *
 generalize Cal.leap y = lp at *
 clear hv hin
 go_enter Tryo.func6, Tryz.ntmps6
 go_wp2_with fail
 refine (HY.out _).mono ?_
 rintro e w1 ⟨rfl, hb1⟩
 have hR1 := ResAt.below (res_alloc w _) hb1
 have hB1 := bt (ba _ _) hb1
 clear hb1
 go_wp2_with fail
 refine (HK.out _).mono ?_
 rintro e w2 ⟨rfl, hb2⟩
 have hR2 := ResAt.below hR1 hb2
 have hB2 := bt hB1 hb2
 clear hb2
 go_wp2_with fail
 refine settleC (fun W => ResAt W w.heap.size ∧ KevAt W w2.heap.size kb kk lp ∧ Below w.heap.size w W) ⟨ResAt.below hR2 (ba _ _), ⟨by simp [go_sem], by simp [go_sem], by simp [go_sem], by simp⟩, baa hB2 _⟩ ?_
 rintro W3 ⟨hR3, hK3, hB3⟩
 refine (HF.out _).mono ?_
 rintro e w4 ⟨rfl, hb4⟩
 have hR4 := ResAt.below hR3 hb4
 have hK4 := KevAt.below hK3 hb4
 have hB4 := bt hB3 hb4
 clear hb4
 have hq := hK4
 obtain ⟨q0, q1, q2, qs⟩ := hq
 go_wp2_with fail
 refine (HD.out _).mono ?_
 rintro e w5 ⟨rfl, hb5⟩
 have hR5 := ResAt.below hR4 hb5
 have hK5 := KevAt.below hK4 hb5
 have hB5 := bt hB4 hb5
 clear hb5 q0 q1 q2 qs
 have hq := hK5
 obtain ⟨q0, q1, q2, qs⟩ := hq
 go_wp2_with fail
 refine (HO.out _).mono ?_
 rintro e w6 ⟨rfl, hb6⟩
 have hR6 := ResAt.below hR5 hb6
 have hB6 := bt hB5 hb6
 clear hb6 q0 q1 q2 qs
 obtain ⟨r0, r1, r2, r3, rf, rs⟩ := hR6
 go_wp2_with fail
 refine bodyPost_ret (v := .tuple #[.agg #[.int .i64 y, .int .i64 cn, .bool cl, .int .i64 d], .int .i64 0]) (by simp [results, Tryz.results6, go_sem, *]) rfl ⟨rfl, ?_⟩
 refine baa ?_ _
 iterate 4 refine Below.setCell ?_ (Nat.le_refl w.heap.size) _
 exact hB6
end Go.Proofs.YtpjifcpmaeklhaaGreatDoor
end
section
namespace Go.Proofs.YtpjifcpmaeklhaaGreatDoor
open Go.ChangeShapes Go.WideShapes Go.ChangeAt Go.RowKit Go.Joins
section
variable {H : Type} {enc : TypeId × Value → H} {W : World} {base b0 : Nat} {spare : Nat → Bool} {held : Bool} {r : Reach} {v : Value} {d : DataW H} {p : List MemPlace}
end
end Go.Proofs.YtpjifcpmaeklhaaGreatDoor
end
section
namespace Go.Proofs.YtpjifcpmaeklhaaGreatDoor
open Go.ChangeShapes Go.WideShapes Go.ChangeAt Go.RowKit
namespace D10
theorem most_one (y : Int) : 1 ≤ Cal.most (Cal.leap y) := by unfold Cal.most; split <;> omega
end D10
end Go.Proofs.YtpjifcpmaeklhaaGreatDoor
end
