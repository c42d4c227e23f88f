/- Layer 15: the document's answers. -/
import Derived.Test.YtafenpgafmdenaaGreatDoorShift
namespace Go.Proofs.YtafenpgafmdenaaGreatDoor
open Go.ChangeShapes Go.WideShapes Go.ChangeAt Go.RowKit Go.Sort
set_option linter.unusedVariables false
set_option maxRecDepth 100000
theorem ref15_mode (m : Int) (w : World) : Calls Tryz.prog 116 #[.int .i64 m] w fun e w' => e = .returned (.bool (S15.mode m)) ∧ w = w' := by
  by_cases a : m = 0
  · subst a
    go_enter Tryz.func116, Tryz.ntmps116
    go_wp2_with fail
    go_ret
    exact ⟨rfl, rfl⟩
  · by_cases b : m = 1
    · subst b
      go_enter Tryz.func116, Tryz.ntmps116
      go_wp2_with fail
      go_ret
      exact ⟨rfl, rfl⟩
    · have e1 : (m == 0) = false := by simp [a]
      have e2 : (m == 1) = false := by simp [b]
      rw [show S15.mode m = false by simp [S15.mode, a, b]]
      clear a b
      go_enter Tryz.func116, Tryz.ntmps116
      go_wp2_with fail
      go_ret
      exact ⟨rfl, rfl⟩
set_option maxHeartbeats 1000000 in
theorem ref15_Into_mode (y n : Int) (l : Bool) (m : Int) (w : World) (hI : I64 y) (hm : S15.mode m = false) :
    Calls Tryz.prog 70 #[.int .i64 y, .agg #[.int .i64 n, .bool l], .int .i64 m] w fun e w' => e = .returned (.tuple #[.agg #[.int .i64 0, .bool false], .int .i64 1]) ∧ Below w.heap.size w w' := by
  have HM := Lib.hid (fun w => (hm ▸ ref15_mode m w : Calls Tryz.prog 116 #[.int .i64 m] w fun e w' => e = .returned (.bool false) ∧ w = w'))
  clear hm
  go_enter Tryz.func70, Tryz.ntmps70
  go_wp2_with fail
  refine settleC (fun W => CodeAt W w.heap.size n l ∧ CodeAt W (w.heap.size + 1) 0 false ∧ Below w.heap.size w W) ⟨CodeAt.below (codeAt_alloc _ _ _ _) (ba _ _), codeAt_alloc2 _ _ _ _ _, baa (ba _ _) _⟩ ?_
  rintro W0 ⟨hC0, hR0, hB0⟩
  have hq := hC0
  obtain ⟨c0, c1, cf, cs⟩ := hq
  have hq := hR0
  obtain ⟨r0, r1, rf, rs⟩ := hq
  refine (HM.out _).mono ?_
  rintro e w' ⟨rfl, rfl⟩
  go_wp2_with fail
  refine bodyPost_ret (v := .tuple #[.agg #[.int .i64 0, .bool false], .int .i64 1]) (by simp [results, Tryz.results70, go_sem, *]) rfl ⟨rfl, ?_⟩
  iterate 2 refine Below.setCell ?_ (by first | omega | (simp; done)) _
  exact hB0
set_option maxHeartbeats 1000000 in
theorem ref15_Into_year (y n : Int) (l : Bool) (m : Int) (w : World) (hI : I64 y) (hm : S15.mode m = true) (hy : Cal.yearIn y = false) :
    Calls Tryz.prog 70 #[.int .i64 y, .agg #[.int .i64 n, .bool l], .int .i64 m] w fun e w' => e = .returned (.tuple #[.agg #[.int .i64 0, .bool false], .int .i64 2]) ∧ Below w.heap.size w w' := by
  have HM := Lib.hid (fun w => (hm ▸ ref15_mode m w : Calls Tryz.prog 116 #[.int .i64 m] w fun e w' => e = .returned (.bool true) ∧ w = w'))
  clear hm
  have HY := Lib.hid (fun w => (hy ▸ ref7_Right y w hI : Calls Tryz.prog 117 #[.int .i64 y] w fun e w' => e = .returned (.bool false) ∧ w = w'))
  go_enter Tryz.func70, Tryz.ntmps70
  go_wp2_with fail
  refine settleC (fun W => CodeAt W w.heap.size n l ∧ CodeAt W (w.heap.size + 1) 0 false ∧ Below w.heap.size w W) ⟨CodeAt.below (codeAt_alloc _ _ _ _) (ba _ _), codeAt_alloc2 _ _ _ _ _, baa (ba _ _) _⟩ ?_
  rintro W0 ⟨hC0, hR0, hB0⟩
  have hq := hC0
  obtain ⟨c0, c1, cf, cs⟩ := hq
  have hq := hR0
  obtain ⟨r0, r1, rf, rs⟩ := hq
  refine (HM.out _).mono ?_
  rintro e w' ⟨rfl, rfl⟩
  go_wp2_with fail
  refine (HY.out _).mono ?_
  rintro e w' ⟨rfl, rfl⟩
  go_wp2_with fail
  refine bodyPost_ret (v := .tuple #[.agg #[.int .i64 0, .bool false], .int .i64 2]) (by simp [results, Tryz.results70, go_sem, *]) rfl ⟨rfl, ?_⟩
  iterate 2 refine Below.setCell ?_ (by first | omega | (simp; done)) _
  exact hB0
set_option maxHeartbeats 1000000 in
theorem ref15_Into_right (y n : Int) (l : Bool) (m : Int) (w : World) (hI : I64 y) (hm : S15.mode m = true) (h1 : 1 ≤ y) (h2 : y ≤ 9999) (hr : Cal.right n l = false) :
    Calls Tryz.prog 70 #[.int .i64 y, .agg #[.int .i64 n, .bool l], .int .i64 m] w fun e w' => e = .returned (.tuple #[.agg #[.int .i64 0, .bool false], .int .i64 3]) ∧ Below w.heap.size w w' := by
  have HM := Lib.hid (fun w => (hm ▸ ref15_mode m w : Calls Tryz.prog 116 #[.int .i64 m] w fun e w' => e = .returned (.bool true) ∧ w = w'))
  clear hm
  have hy := Cal.yearIn_yes y h1 h2
  have HY := Lib.hid (fun w => (hy ▸ ref7_Right y w hI : Calls Tryz.prog 117 #[.int .i64 y] w fun e w' => e = .returned (.bool true) ∧ w = w'))
  clear hy
  have HR := Lib.hid (fun w => (hr ▸ ref9_Right_any n l w : Calls Tryz.prog 89 #[.agg #[.int .i64 n, .bool l]] w fun e w' => e = .returned (.bool false) ∧ Below w.heap.size w w'))
  clear hr
  go_enter Tryz.func70, Tryz.ntmps70
  go_wp2_with fail
  refine settleC (fun W => CodeAt W w.heap.size n l ∧ CodeAt W (w.heap.size + 1) 0 false ∧ Below w.heap.size w W) ⟨CodeAt.below (codeAt_alloc _ _ _ _) (ba _ _), codeAt_alloc2 _ _ _ _ _, baa (ba _ _) _⟩ ?_
  rintro W0 ⟨hC0, hR0, hB0⟩
  have hq := hC0
  obtain ⟨c0, c1, cf, cs⟩ := hq
  have hq := hR0
  obtain ⟨r0, r1, rf, rs⟩ := hq
  refine (HM.out _).mono ?_
  rintro e w' ⟨rfl, rfl⟩
  go_wp2_with fail
  refine (HY.out _).mono ?_
  rintro e w' ⟨rfl, rfl⟩
  go_wp2_with fail
  refine (HR.out _).mono ?_
  rintro e W1 ⟨rfl, hb1⟩
  have hC1 := CodeAt.below hC0 hb1
  have hR1 := CodeAt.below hR0 hb1
  have hB1 := bt hB0 hb1
  clear c0 c1 cf cs r0 r1 rf rs
  have hq := hC1
  obtain ⟨c0, c1, cf, cs⟩ := hq
  have hq := hR1
  obtain ⟨r0, r1, rf, rs⟩ := hq
  go_wp2_with fail
  refine bodyPost_ret (v := .tuple #[.agg #[.int .i64 0, .bool false], .int .i64 3]) (by simp [results, Tryz.results70, go_sem, *]) rfl ⟨rfl, ?_⟩
  iterate 2 refine Below.setCell ?_ (by first | omega | (simp; done)) _
  exact hB1
set_option maxHeartbeats 1000000 in
theorem ref15_Into_ok0 (y n : Int) (l : Bool) (m : Int) (w : World) (hI : I64 y) (hm : S15.mode m = true) (h1 : 1 ≤ y) (h2 : y ≤ 9999) (hr : Cal.right n l = true) (hl : l = false) :
    Calls Tryz.prog 70 #[.int .i64 y, .agg #[.int .i64 n, .bool l], .int .i64 m] w fun e w' => e = .returned (.tuple #[.agg #[.int .i64 n, .bool false], .int .i64 0]) ∧ Below w.heap.size w w' := by
  have HM := Lib.hid (fun w => (hm ▸ ref15_mode m w : Calls Tryz.prog 116 #[.int .i64 m] w fun e w' => e = .returned (.bool true) ∧ w = w'))
  clear hm
  have hy := Cal.yearIn_yes y h1 h2
  have HY := Lib.hid (fun w => (hy ▸ ref7_Right y w hI : Calls Tryz.prog 117 #[.int .i64 y] w fun e w' => e = .returned (.bool true) ∧ w = w'))
  clear hy
  have HR := Lib.hid (fun w => (hr ▸ ref9_Right_any n l w : Calls Tryz.prog 89 #[.agg #[.int .i64 n, .bool l]] w fun e w' => e = .returned (.bool true) ∧ Below w.heap.size w w'))
  clear hr
  subst hl
  go_enter Tryz.func70, Tryz.ntmps70
  go_wp2_with fail
  refine settleC (fun W => CodeAt W w.heap.size n false ∧ CodeAt W (w.heap.size + 1) 0 false ∧ Below w.heap.size w W) ⟨CodeAt.below (codeAt_alloc _ _ _ _) (ba _ _), codeAt_alloc2 _ _ _ _ _, baa (ba _ _) _⟩ ?_
  rintro W0 ⟨hC0, hR0, hB0⟩
  have hq := hC0
  obtain ⟨c0, c1, cf, cs⟩ := hq
  have hq := hR0
  obtain ⟨r0, r1, rf, rs⟩ := hq
  refine (HM.out _).mono ?_
  rintro e w' ⟨rfl, rfl⟩
  go_wp2_with fail
  refine (HY.out _).mono ?_
  rintro e w' ⟨rfl, rfl⟩
  go_wp2_with fail
  refine (HR.out _).mono ?_
  rintro e W1 ⟨rfl, hb1⟩
  have hC1 := CodeAt.below hC0 hb1
  have hR1 := CodeAt.below hR0 hb1
  have hB1 := bt hB0 hb1
  clear c0 c1 cf cs r0 r1 rf rs
  have hq := hC1
  obtain ⟨c0, c1, cf, cs⟩ := hq
  have hq := hR1
  obtain ⟨r0, r1, rf, rs⟩ := hq
  go_wp2_with fail
  refine bodyPost_ret (v := .tuple #[.agg #[.int .i64 n, .bool false], .int .i64 0]) (by simp [results, Tryz.results70, go_sem, *]) rfl ⟨rfl, ?_⟩
  iterate 2 refine Below.setCell ?_ (by first | omega | (simp; done)) _
  exact hB1
set_option maxHeartbeats 1000000 in
theorem ref15_Into_ok1 (y n : Int) (l : Bool) (m : Int) (w : World) (hI : I64 y) (hm : S15.mode m = true) (h1 : 1 ≤ y) (h2 : y ≤ 9999) (hr : Cal.right n l = true) (hl : l = true) (hp : Cal.leap y = true) :
    Calls Tryz.prog 70 #[.int .i64 y, .agg #[.int .i64 n, .bool l], .int .i64 m] w fun e w' => e = .returned (.tuple #[.agg #[.int .i64 n, .bool true], .int .i64 0]) ∧ Below w.heap.size w w' := by
  have HM := Lib.hid (fun w => (hm ▸ ref15_mode m w : Calls Tryz.prog 116 #[.int .i64 m] w fun e w' => e = .returned (.bool true) ∧ w = w'))
  clear hm
  have hy := Cal.yearIn_yes y h1 h2
  have HY := Lib.hid (fun w => (hy ▸ ref7_Right y w hI : Calls Tryz.prog 117 #[.int .i64 y] w fun e w' => e = .returned (.bool true) ∧ w = w'))
  clear hy
  have HR := Lib.hid (fun w => (hr ▸ ref9_Right_any n l w : Calls Tryz.prog 89 #[.agg #[.int .i64 n, .bool l]] w fun e w' => e = .returned (.bool true) ∧ Below w.heap.size w w'))
  clear hr
  have HI := Lib.hid (fun w => (hp ▸ ref3_Is y w (by omega) (by omega) : Calls Tryz.prog 56 #[.int .i64 y] w fun e w' => e = .returned (.bool true) ∧ w = w'))
  clear hp
  subst hl
  go_enter Tryz.func70, Tryz.ntmps70
  go_wp2_with fail
  refine settleC (fun W => CodeAt W w.heap.size n true ∧ CodeAt W (w.heap.size + 1) 0 false ∧ Below w.heap.size w W) ⟨CodeAt.below (codeAt_alloc _ _ _ _) (ba _ _), codeAt_alloc2 _ _ _ _ _, baa (ba _ _) _⟩ ?_
  rintro W0 ⟨hC0, hR0, hB0⟩
  have hq := hC0
  obtain ⟨c0, c1, cf, cs⟩ := hq
  have hq := hR0
  obtain ⟨r0, r1, rf, rs⟩ := hq
  refine (HM.out _).mono ?_
  rintro e w' ⟨rfl, rfl⟩
  go_wp2_with fail
  refine (HY.out _).mono ?_
  rintro e w' ⟨rfl, rfl⟩
  go_wp2_with fail
  refine (HR.out _).mono ?_
  rintro e W1 ⟨rfl, hb1⟩
  have hC1 := CodeAt.below hC0 hb1
  have hR1 := CodeAt.below hR0 hb1
  have hB1 := bt hB0 hb1
  clear c0 c1 cf cs r0 r1 rf rs
  have hq := hC1
  obtain ⟨c0, c1, cf, cs⟩ := hq
  have hq := hR1
  obtain ⟨r0, r1, rf, rs⟩ := hq
  go_wp2_with fail
  refine (HI.out _).mono ?_
  rintro e w' ⟨rfl, rfl⟩
  go_wp2_with fail
  refine bodyPost_ret (v := .tuple #[.agg #[.int .i64 n, .bool true], .int .i64 0]) (by simp [results, Tryz.results70, go_sem, *]) rfl ⟨rfl, ?_⟩
  iterate 2 refine Below.setCell ?_ (by first | omega | (simp; done)) _
  exact hB1
set_option maxHeartbeats 1000000 in
theorem ref15_Into_rej (y n : Int) (l : Bool) (m : Int) (w : World) (hI : I64 y) (hm : S15.mode m = true) (h1 : 1 ≤ y) (h2 : y ≤ 9999) (hr : Cal.right n l = true) (hl : l = true) (hp : Cal.leap y = false) (h7 : m = 1) :
    Calls Tryz.prog 70 #[.int .i64 y, .agg #[.int .i64 n, .bool l], .int .i64 m] w fun e w' => e = .returned (.tuple #[.agg #[.int .i64 0, .bool false], .int .i64 7]) ∧ Below w.heap.size w w' := by
  subst h7
  have HM := Lib.hid (fun w => (hm ▸ ref15_mode 1 w : Calls Tryz.prog 116 #[.int .i64 1] w fun e w' => e = .returned (.bool true) ∧ w = w'))
  clear hm
  have hy := Cal.yearIn_yes y h1 h2
  have HY := Lib.hid (fun w => (hy ▸ ref7_Right y w hI : Calls Tryz.prog 117 #[.int .i64 y] w fun e w' => e = .returned (.bool true) ∧ w = w'))
  clear hy
  have HR := Lib.hid (fun w => (hr ▸ ref9_Right_any n l w : Calls Tryz.prog 89 #[.agg #[.int .i64 n, .bool l]] w fun e w' => e = .returned (.bool true) ∧ Below w.heap.size w w'))
  clear hr
  have HI := Lib.hid (fun w => (hp ▸ ref3_Is y w (by omega) (by omega) : Calls Tryz.prog 56 #[.int .i64 y] w fun e w' => e = .returned (.bool false) ∧ w = w'))
  clear hp
  subst hl
  go_enter Tryz.func70, Tryz.ntmps70
  go_wp2_with fail
  refine settleC (fun W => CodeAt W w.heap.size n true ∧ CodeAt W (w.heap.size + 1) 0 false ∧ Below w.heap.size w W) ⟨CodeAt.below (codeAt_alloc _ _ _ _) (ba _ _), codeAt_alloc2 _ _ _ _ _, baa (ba _ _) _⟩ ?_
  rintro W0 ⟨hC0, hR0, hB0⟩
  have hq := hC0
  obtain ⟨c0, c1, cf, cs⟩ := hq
  have hq := hR0
  obtain ⟨r0, r1, rf, rs⟩ := hq
  refine (HM.out _).mono ?_
  rintro e w' ⟨rfl, rfl⟩
  go_wp2_with fail
  refine (HY.out _).mono ?_
  rintro e w' ⟨rfl, rfl⟩
  go_wp2_with fail
  refine (HR.out _).mono ?_
  rintro e W1 ⟨rfl, hb1⟩
  have hC1 := CodeAt.below hC0 hb1
  have hR1 := CodeAt.below hR0 hb1
  have hB1 := bt hB0 hb1
  clear c0 c1 cf cs r0 r1 rf rs
  have hq := hC1
  obtain ⟨c0, c1, cf, cs⟩ := hq
  have hq := hR1
  obtain ⟨r0, r1, rf, rs⟩ := hq
  go_wp2_with fail
  refine (HI.out _).mono ?_
  rintro e w' ⟨rfl, rfl⟩
  go_wp2_with fail
  refine bodyPost_ret (v := .tuple #[.agg #[.int .i64 0, .bool false], .int .i64 7]) (by simp [results, Tryz.results70, go_sem, *]) rfl ⟨rfl, ?_⟩
  iterate 2 refine Below.setCell ?_ (by first | omega | (simp; done)) _
  exact hB1
set_option maxHeartbeats 1000000 in
theorem ref15_Into_six (y n : Int) (l : Bool) (m : Int) (w : World) (hI : I64 y) (hm : S15.mode m = true) (h1 : 1 ≤ y) (h2 : y ≤ 9999) (hr : Cal.right n l = true) (hl : l = true) (hp : Cal.leap y = false) (h7 : m = 0) :
    Calls Tryz.prog 70 #[.int .i64 y, .agg #[.int .i64 n, .bool l], .int .i64 m] w fun e w' => e = .returned (.tuple #[.agg #[.int .i64 6, .bool false], .int .i64 0]) ∧ Below w.heap.size w w' := by
  subst h7
  have HM := Lib.hid (fun w => (hm ▸ ref15_mode 0 w : Calls Tryz.prog 116 #[.int .i64 0] w fun e w' => e = .returned (.bool true) ∧ w = w'))
  clear hm
  have hy := Cal.yearIn_yes y h1 h2
  have HY := Lib.hid (fun w => (hy ▸ ref7_Right y w hI : Calls Tryz.prog 117 #[.int .i64 y] w fun e w' => e = .returned (.bool true) ∧ w = w'))
  clear hy
  have HR := Lib.hid (fun w => (hr ▸ ref9_Right_any n l w : Calls Tryz.prog 89 #[.agg #[.int .i64 n, .bool l]] w fun e w' => e = .returned (.bool true) ∧ Below w.heap.size w w'))
  clear hr
  have HI := Lib.hid (fun w => (hp ▸ ref3_Is y w (by omega) (by omega) : Calls Tryz.prog 56 #[.int .i64 y] w fun e w' => e = .returned (.bool false) ∧ w = w'))
  clear hp
  subst hl
  go_enter Tryz.func70, Tryz.ntmps70
  go_wp2_with fail
  refine settleC (fun W => CodeAt W w.heap.size n true ∧ CodeAt W (w.heap.size + 1) 0 false ∧ Below w.heap.size w W) ⟨CodeAt.below (codeAt_alloc _ _ _ _) (ba _ _), codeAt_alloc2 _ _ _ _ _, baa (ba _ _) _⟩ ?_
  rintro W0 ⟨hC0, hR0, hB0⟩
  have hq := hC0
  obtain ⟨c0, c1, cf, cs⟩ := hq
  have hq := hR0
  obtain ⟨r0, r1, rf, rs⟩ := hq
  refine (HM.out _).mono ?_
  rintro e w' ⟨rfl, rfl⟩
  go_wp2_with fail
  refine (HY.out _).mono ?_
  rintro e w' ⟨rfl, rfl⟩
  go_wp2_with fail
  refine (HR.out _).mono ?_
  rintro e W1 ⟨rfl, hb1⟩
  have hC1 := CodeAt.below hC0 hb1
  have hR1 := CodeAt.below hR0 hb1
  have hB1 := bt hB0 hb1
  clear c0 c1 cf cs r0 r1 rf rs
  have hq := hC1
  obtain ⟨c0, c1, cf, cs⟩ := hq
  have hq := hR1
  obtain ⟨r0, r1, rf, rs⟩ := hq
  go_wp2_with fail
  refine (HI.out _).mono ?_
  rintro e w' ⟨rfl, rfl⟩
  go_wp2_with fail
  refine bodyPost_ret (v := .tuple #[.agg #[.int .i64 6, .bool false], .int .i64 0]) (by simp [results, Tryz.results70, go_sem, *]) rfl ⟨rfl, ?_⟩
  iterate 2 refine Below.setCell ?_ (by first | omega | (simp; done)) _
  exact hB1
theorem ref15_Into (y n : Int) (l : Bool) (m : Int) (w : World) (hI : I64 y) :
    Calls Tryz.prog 70 #[.int .i64 y, .agg #[.int .i64 n, .bool l], .int .i64 m] w fun e w' => e = .returned (.tuple #[.agg #[.int .i64 (S15.intoN y n l m), .bool (S15.intoL y n l m)], .int .i64 (S15.intoE y n l m)]) ∧ Below w.heap.size w w' := by
  unfold S15.intoN S15.intoL
  cases hm : S15.mode m
  · rw [show S15.intoE y n l m = 1 by simp [S15.intoE, hm]]
    exact ref15_Into_mode y n l m w hI hm
  cases hy : Cal.yearIn y
  · rw [show S15.intoE y n l m = 2 by simp [S15.intoE, hm, hy]]
    exact ref15_Into_year y n l m w hI hm hy
  obtain ⟨h1, h2⟩ := D10.year_in y hy
  cases hr : Cal.right n l
  · rw [show S15.intoE y n l m = 3 by simp [S15.intoE, hm, hy, hr]]
    exact ref15_Into_right y n l m w hI hm h1 h2 hr
  cases hp : Cal.plOk (Cal.leap y) n l
  · by_cases c : m = 1
    · rw [show S15.intoE y n l m = 7 by subst c; simp [S15.intoE, hm, hy, hr, hp]]
      have hx : l = true ∧ Cal.leap y = false := by simpa [Cal.plOk, hr] using hp
      exact ref15_Into_rej y n l m w hI hm h1 h2 hr hx.1 hx.2 c
    · have c0 : m = 0 := by simp [S15.mode, c] at hm; exact hm
      rw [show S15.intoE y n l m = 0 by simp [S15.intoE, hm, hy, hr, hp, c]]
      have hx : l = true ∧ Cal.leap y = false := by simpa [Cal.plOk, hr] using hp
      exact ref15_Into_six y n l m w hI hm h1 h2 hr hx.1 hx.2 c0
  · rw [show S15.intoE y n l m = 0 by simp [S15.intoE, hm, hy, hr, hp]]
    cases hl : l
    · subst hl
      exact ref15_Into_ok0 y n false m w hI hm h1 h2 hr rfl
    · subst hl
      have hx : Cal.leap y = true := by simpa [Cal.plOk, hr] using hp
      exact ref15_Into_ok1 y n true m w hI hm h1 h2 hr rfl hx
set_option maxHeartbeats 1000000 in
theorem ref15_Fit_mode (y n : Int) (l : Bool) (d m : Int) (w : World) (hy : I64 y)  (hm : S15.mode m = false) :
    Calls Tryz.prog 72 #[.int .i64 y, .agg #[.int .i64 n, .bool l], .int .i64 d, .int .i64 m] w fun e w' => e = .returned (.tuple #[.int .i64 0, .int .i64 1]) ∧ Below w.heap.size w w' := by
  have HM := Lib.hid (fun w => (hm ▸ ref15_mode m w : Calls Tryz.prog 116 #[.int .i64 m] w fun e w' => e = .returned (.bool false) ∧ w = w'))
  clear hm
  go_enter Tryz.func72, Tryz.ntmps72
  go_wp2_with fail
  refine (HM.out _).mono ?_
  rintro e w' ⟨rfl, rfl⟩
  go_wp2_with fail
  go_ret2
  refine ⟨rfl, ?_⟩
  repeat (first | (with_reducible exact Below.refl _ _) | (with_reducible assumption) | (with_reducible refine bdrew ?_) | (with_reducible refine baa ?_ _) | (with_reducible refine bs ?_ (by first | exact Nat.le_refl _ | omega | (simp; omega)) _) | (with_reducible refine bt ?_ (by with_reducible assumption)))
set_option maxHeartbeats 1000000 in
theorem ref15_Fit_last (y n : Int) (l : Bool) (d m : Int) (w : World) (hy : I64 y)  (hm : S15.mode m = true) (he : ¬ D10.lastE y n l = 0) :
    Calls Tryz.prog 72 #[.int .i64 y, .agg #[.int .i64 n, .bool l], .int .i64 d, .int .i64 m] w fun e w' => e = .returned (.tuple #[.int .i64 0, .int .i64 (D10.lastE y n l)]) ∧ Below w.heap.size w w' := by
  have HM := Lib.hid (fun w => (hm ▸ ref15_mode m w : Calls Tryz.prog 116 #[.int .i64 m] w fun e w' => e = .returned (.bool true) ∧ w = w'))
  clear hm
  have HL := Lib.hid (fun w  => ref10_Last y n l w hy )
  generalize D10.lastE y n l = le at *
  generalize D10.lastV y n l = lv at *
  have he2 : (le != 0) = true := by simpa using he
  go_enter Tryz.func72, Tryz.ntmps72
  go_wp2_with fail
  refine (HM.out _).mono ?_
  rintro e w' ⟨rfl, rfl⟩
  go_wp2_with fail
  refine (HL.out _ ).mono ?_
  rintro e w1 ⟨rfl, hb1⟩
  obtain ⟨hc1, hf1⟩ := bcell hb1
  have hz1 := hb1.size
  try simp at hz1
  have hs1x0 : w.heap.size < w1.heap.size := by omega
  have g1x0 : w1.cell? ⟨w.heap.size, 0, none⟩ = some (.int .i64 n) := (hc1 _ _ (by first | omega | (simp; done) | (simp; omega))).trans (by first | (with_reducible assumption) | (simp [go_sem]; done) | (simp [go_sem, *]; done) | assumption)
  have g1x1 : w1.cell? ⟨w.heap.size, 1, none⟩ = some (.bool l) := (hc1 _ _ (by first | omega | (simp; done) | (simp; omega))).trans (by first | (with_reducible assumption) | (simp [go_sem]; done) | (simp [go_sem, *]; done) | assumption)
  go_wp2_with fail
  go_ret2
  refine ⟨rfl, ?_⟩
  repeat (first | (with_reducible exact Below.refl _ _) | (with_reducible assumption) | (with_reducible refine bdrew ?_) | (with_reducible refine baa ?_ _) | (with_reducible refine bs ?_ (by first | exact Nat.le_refl _ | omega | (simp; omega)) _) | (with_reducible refine bt ?_ (by with_reducible assumption)))
set_option maxHeartbeats 1000000 in
theorem ref15_Fit_low (y n : Int) (l : Bool) (d m : Int) (w : World) (hy : I64 y)  (hm : S15.mode m = true) (he : D10.lastE y n l = 0) (hd : d < 1) :
    Calls Tryz.prog 72 #[.int .i64 y, .agg #[.int .i64 n, .bool l], .int .i64 d, .int .i64 m] w fun e w' => e = .returned (.tuple #[.int .i64 0, .int .i64 4]) ∧ Below w.heap.size w w' := by
  have HM := Lib.hid (fun w => (hm ▸ ref15_mode m w : Calls Tryz.prog 116 #[.int .i64 m] w fun e w' => e = .returned (.bool true) ∧ w = w'))
  clear hm
  have hbd := S15.lastV_bd he
  have HL := Lib.hid (fun w  => ref10_Last y n l w hy )
  rw [he] at HL
  clear he
  generalize D10.lastV y n l = lv at *
  go_enter Tryz.func72, Tryz.ntmps72
  go_wp2_with fail
  refine (HM.out _).mono ?_
  rintro e w' ⟨rfl, rfl⟩
  go_wp2_with fail
  refine (HL.out _ ).mono ?_
  rintro e w1 ⟨rfl, hb1⟩
  obtain ⟨hc1, hf1⟩ := bcell hb1
  have hz1 := hb1.size
  try simp at hz1
  have hs1x0 : w.heap.size < w1.heap.size := by omega
  have g1x0 : w1.cell? ⟨w.heap.size, 0, none⟩ = some (.int .i64 n) := (hc1 _ _ (by first | omega | (simp; done) | (simp; omega))).trans (by first | (with_reducible assumption) | (simp [go_sem]; done) | (simp [go_sem, *]; done) | assumption)
  have g1x1 : w1.cell? ⟨w.heap.size, 1, none⟩ = some (.bool l) := (hc1 _ _ (by first | omega | (simp; done) | (simp; omega))).trans (by first | (with_reducible assumption) | (simp [go_sem]; done) | (simp [go_sem, *]; done) | assumption)
  go_wp2_with fail
  go_ret2
  refine ⟨rfl, ?_⟩
  repeat (first | (with_reducible exact Below.refl _ _) | (with_reducible assumption) | (with_reducible refine bdrew ?_) | (with_reducible refine baa ?_ _) | (with_reducible refine bs ?_ (by first | exact Nat.le_refl _ | omega | (simp; omega)) _) | (with_reducible refine bt ?_ (by with_reducible assumption)))
set_option maxHeartbeats 1000000 in
theorem ref15_Fit_high (y n : Int) (l : Bool) (d m : Int) (w : World) (hy : I64 y)  (hm : S15.mode m = true) (he : D10.lastE y n l = 0) (hd0 : 1 ≤ d) (hd : 30 < d) :
    Calls Tryz.prog 72 #[.int .i64 y, .agg #[.int .i64 n, .bool l], .int .i64 d, .int .i64 m] w fun e w' => e = .returned (.tuple #[.int .i64 0, .int .i64 4]) ∧ Below w.heap.size w w' := by
  have HM := Lib.hid (fun w => (hm ▸ ref15_mode m w : Calls Tryz.prog 116 #[.int .i64 m] w fun e w' => e = .returned (.bool true) ∧ w = w'))
  clear hm
  have hbd := S15.lastV_bd he
  have HL := Lib.hid (fun w  => ref10_Last y n l w hy )
  rw [he] at HL
  clear he
  generalize D10.lastV y n l = lv at *
  go_enter Tryz.func72, Tryz.ntmps72
  go_wp2_with fail
  refine (HM.out _).mono ?_
  rintro e w' ⟨rfl, rfl⟩
  go_wp2_with fail
  refine (HL.out _ ).mono ?_
  rintro e w1 ⟨rfl, hb1⟩
  obtain ⟨hc1, hf1⟩ := bcell hb1
  have hz1 := hb1.size
  try simp at hz1
  have hs1x0 : w.heap.size < w1.heap.size := by omega
  have g1x0 : w1.cell? ⟨w.heap.size, 0, none⟩ = some (.int .i64 n) := (hc1 _ _ (by first | omega | (simp; done) | (simp; omega))).trans (by first | (with_reducible assumption) | (simp [go_sem]; done) | (simp [go_sem, *]; done) | assumption)
  have g1x1 : w1.cell? ⟨w.heap.size, 1, none⟩ = some (.bool l) := (hc1 _ _ (by first | omega | (simp; done) | (simp; omega))).trans (by first | (with_reducible assumption) | (simp [go_sem]; done) | (simp [go_sem, *]; done) | assumption)
  go_wp2_with fail
  go_ret2
  refine ⟨rfl, ?_⟩
  repeat (first | (with_reducible exact Below.refl _ _) | (with_reducible assumption) | (with_reducible refine bdrew ?_) | (with_reducible refine baa ?_ _) | (with_reducible refine bs ?_ (by first | exact Nat.le_refl _ | omega | (simp; omega)) _) | (with_reducible refine bt ?_ (by with_reducible assumption)))
set_option maxHeartbeats 1000000 in
theorem ref15_Fit_ok (y n : Int) (l : Bool) (d m : Int) (w : World) (hy : I64 y)  (hm : S15.mode m = true) (he : D10.lastE y n l = 0) (hd0 : 1 ≤ d) (hd : d ≤ 30) (hv : d ≤ D10.lastV y n l) :
    Calls Tryz.prog 72 #[.int .i64 y, .agg #[.int .i64 n, .bool l], .int .i64 d, .int .i64 m] w fun e w' => e = .returned (.tuple #[.int .i64 d, .int .i64 0]) ∧ Below w.heap.size w w' := by
  have HM := Lib.hid (fun w => (hm ▸ ref15_mode m w : Calls Tryz.prog 116 #[.int .i64 m] w fun e w' => e = .returned (.bool true) ∧ w = w'))
  clear hm
  have hbd := S15.lastV_bd he
  have HL := Lib.hid (fun w  => ref10_Last y n l w hy )
  rw [he] at HL
  clear he
  generalize D10.lastV y n l = lv at *
  go_enter Tryz.func72, Tryz.ntmps72
  go_wp2_with fail
  refine (HM.out _).mono ?_
  rintro e w' ⟨rfl, rfl⟩
  go_wp2_with fail
  refine (HL.out _ ).mono ?_
  rintro e w1 ⟨rfl, hb1⟩
  obtain ⟨hc1, hf1⟩ := bcell hb1
  have hz1 := hb1.size
  try simp at hz1
  have hs1x0 : w.heap.size < w1.heap.size := by omega
  have g1x0 : w1.cell? ⟨w.heap.size, 0, none⟩ = some (.int .i64 n) := (hc1 _ _ (by first | omega | (simp; done) | (simp; omega))).trans (by first | (with_reducible assumption) | (simp [go_sem]; done) | (simp [go_sem, *]; done) | assumption)
  have g1x1 : w1.cell? ⟨w.heap.size, 1, none⟩ = some (.bool l) := (hc1 _ _ (by first | omega | (simp; done) | (simp; omega))).trans (by first | (with_reducible assumption) | (simp [go_sem]; done) | (simp [go_sem, *]; done) | assumption)
  go_wp2_with fail
  go_ret2
  refine ⟨rfl, ?_⟩
  repeat (first | (with_reducible exact Below.refl _ _) | (with_reducible assumption) | (with_reducible refine bdrew ?_) | (with_reducible refine baa ?_ _) | (with_reducible refine bs ?_ (by first | exact Nat.le_refl _ | omega | (simp; omega)) _) | (with_reducible refine bt ?_ (by with_reducible assumption)))
set_option maxHeartbeats 1000000 in
theorem ref15_Fit_rej (y n : Int) (l : Bool) (d m : Int) (w : World) (hy : I64 y)  (hm : S15.mode m = true) (he : D10.lastE y n l = 0) (hd0 : 1 ≤ d) (hd : d ≤ 30) (hv : D10.lastV y n l < d) (h7 : m = 1) :
    Calls Tryz.prog 72 #[.int .i64 y, .agg #[.int .i64 n, .bool l], .int .i64 d, .int .i64 m] w fun e w' => e = .returned (.tuple #[.int .i64 0, .int .i64 7]) ∧ Below w.heap.size w w' := by
  subst h7
  have HM := Lib.hid (fun w => (hm ▸ ref15_mode 1 w : Calls Tryz.prog 116 #[.int .i64 1] w fun e w' => e = .returned (.bool true) ∧ w = w'))
  clear hm
  have hbd := S15.lastV_bd he
  have HL := Lib.hid (fun w  => ref10_Last y n l w hy )
  rw [he] at HL
  clear he
  generalize D10.lastV y n l = lv at *
  go_enter Tryz.func72, Tryz.ntmps72
  go_wp2_with fail
  refine (HM.out _).mono ?_
  rintro e w' ⟨rfl, rfl⟩
  go_wp2_with fail
  refine (HL.out _ ).mono ?_
  rintro e w1 ⟨rfl, hb1⟩
  obtain ⟨hc1, hf1⟩ := bcell hb1
  have hz1 := hb1.size
  try simp at hz1
  have hs1x0 : w.heap.size < w1.heap.size := by omega
  have g1x0 : w1.cell? ⟨w.heap.size, 0, none⟩ = some (.int .i64 n) := (hc1 _ _ (by first | omega | (simp; done) | (simp; omega))).trans (by first | (with_reducible assumption) | (simp [go_sem]; done) | (simp [go_sem, *]; done) | assumption)
  have g1x1 : w1.cell? ⟨w.heap.size, 1, none⟩ = some (.bool l) := (hc1 _ _ (by first | omega | (simp; done) | (simp; omega))).trans (by first | (with_reducible assumption) | (simp [go_sem]; done) | (simp [go_sem, *]; done) | assumption)
  go_wp2_with fail
  go_ret2
  refine ⟨rfl, ?_⟩
  repeat (first | (with_reducible exact Below.refl _ _) | (with_reducible assumption) | (with_reducible refine bdrew ?_) | (with_reducible refine baa ?_ _) | (with_reducible refine bs ?_ (by first | exact Nat.le_refl _ | omega | (simp; omega)) _) | (with_reducible refine bt ?_ (by with_reducible assumption)))
set_option maxHeartbeats 1000000 in
theorem ref15_Fit_last_ok (y n : Int) (l : Bool) (d m : Int) (w : World) (hy : I64 y)  (hm : S15.mode m = true) (he : D10.lastE y n l = 0) (hd0 : 1 ≤ d) (hd : d ≤ 30) (hv : D10.lastV y n l < d) (h7 : m = 0) :
    Calls Tryz.prog 72 #[.int .i64 y, .agg #[.int .i64 n, .bool l], .int .i64 d, .int .i64 m] w fun e w' => e = .returned (.tuple #[.int .i64 (D10.lastV y n l), .int .i64 0]) ∧ Below w.heap.size w w' := by
  subst h7
  have HM := Lib.hid (fun w => (hm ▸ ref15_mode 0 w : Calls Tryz.prog 116 #[.int .i64 0] w fun e w' => e = .returned (.bool true) ∧ w = w'))
  clear hm
  have hbd := S15.lastV_bd he
  have HL := Lib.hid (fun w  => ref10_Last y n l w hy )
  rw [he] at HL
  clear he
  generalize D10.lastV y n l = lv at *
  go_enter Tryz.func72, Tryz.ntmps72
  go_wp2_with fail
  refine (HM.out _).mono ?_
  rintro e w' ⟨rfl, rfl⟩
  go_wp2_with fail
  refine (HL.out _ ).mono ?_
  rintro e w1 ⟨rfl, hb1⟩
  obtain ⟨hc1, hf1⟩ := bcell hb1
  have hz1 := hb1.size
  try simp at hz1
  have hs1x0 : w.heap.size < w1.heap.size := by omega
  have g1x0 : w1.cell? ⟨w.heap.size, 0, none⟩ = some (.int .i64 n) := (hc1 _ _ (by first | omega | (simp; done) | (simp; omega))).trans (by first | (with_reducible assumption) | (simp [go_sem]; done) | (simp [go_sem, *]; done) | assumption)
  have g1x1 : w1.cell? ⟨w.heap.size, 1, none⟩ = some (.bool l) := (hc1 _ _ (by first | omega | (simp; done) | (simp; omega))).trans (by first | (with_reducible assumption) | (simp [go_sem]; done) | (simp [go_sem, *]; done) | assumption)
  go_wp2_with fail
  go_ret2
  refine ⟨rfl, ?_⟩
  repeat (first | (with_reducible exact Below.refl _ _) | (with_reducible assumption) | (with_reducible refine bdrew ?_) | (with_reducible refine baa ?_ _) | (with_reducible refine bs ?_ (by first | exact Nat.le_refl _ | omega | (simp; omega)) _) | (with_reducible refine bt ?_ (by with_reducible assumption)))
theorem ref15_Fit (y n : Int) (l : Bool) (d m : Int) (w : World) (hy : I64 y)  :
    Calls Tryz.prog 72 #[.int .i64 y, .agg #[.int .i64 n, .bool l], .int .i64 d, .int .i64 m] w fun e w' => e = .returned (.tuple #[.int .i64 (S15.fitV y n l d m), .int .i64 (S15.fitE y n l d m)]) ∧ Below w.heap.size w w' := by
  unfold S15.fitV
  cases hm : S15.mode m
  · rw [show S15.fitE y n l d m = 1 by simp [S15.fitE, hm]]
    exact ref15_Fit_mode y n l d m w hy  hm
  by_cases he : D10.lastE y n l = 0
  · by_cases c1 : d < 1 ∨ 30 < d
    · rw [show S15.fitE y n l d m = 4 by simp [S15.fitE, hm, he, c1]]
      by_cases c : d < 1
      · exact ref15_Fit_low y n l d m w hy  hm he c
      · exact ref15_Fit_high y n l d m w hy  hm he (by omega) (by omega)
    · by_cases c2 : d ≤ D10.lastV y n l
      · rw [show S15.fitE y n l d m = 0 by simp [S15.fitE, hm, he, c1, c2], if_pos rfl, if_pos c2]
        exact ref15_Fit_ok y n l d m w hy  hm he (by omega) (by omega) c2
      · by_cases c3 : m = 1
        · rw [show S15.fitE y n l d m = 7 by subst c3; simp [S15.fitE, hm, he, c1, c2]]
          exact ref15_Fit_rej y n l d m w hy  hm he (by omega) (by omega) (by omega) c3
        · have c0 : m = 0 := by simp [S15.mode, c3] at hm; exact hm
          rw [show S15.fitE y n l d m = 0 by simp [S15.fitE, hm, he, c1, c2, c3], if_pos rfl, if_neg c2]
          exact ref15_Fit_last_ok y n l d m w hy  hm he (by omega) (by omega) (by omega) c0
  · have e : S15.fitE y n l d m = D10.lastE y n l := by simp [S15.fitE, hm, he]
    rw [e, if_neg he]
    exact ref15_Fit_last y n l d m w hy  hm he
end Go.Proofs.YtafenpgafmdenaaGreatDoor
