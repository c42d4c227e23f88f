/- Layer 15: the document's answers. -/
import Derived.Test.YtmiadhiomingmaaDoorShift
namespace Go.Proofs.YtmiadhiomingmaaDoor
open Go.ChangeShapes Go.WideShapes Go.ChangeAt Go.RowKit Go.Sort
set_option linter.unusedVariables false
set_option maxRecDepth 100000
theorem ref15_mode (m : Int) (w : World) : Calls Tryd.prog 95 #[.int .i64 m] w fun e w' => e = .returned (.bool (S15.mode m)) ∧ w = w' := by
  by_cases a : m = 0
  · subst a
    go_enter Tryd.func95, Tryd.ntmps95
    go_wp2_with fail
    go_ret
    exact ⟨rfl, rfl⟩
  · by_cases b : m = 1
    · subst b
      go_enter Tryd.func95, Tryd.ntmps95
      go_wp2_with fail
      go_ret
      exact ⟨rfl, rfl⟩
    · have e1 : (m == 0) = false := by simp [a]
      have e2 : (m == 1) = false := by simp [b]
      rw [show S15.mode m = false by simp [S15.mode, a, b]]
      clear a b
      go_enter Tryd.func95, Tryd.ntmps95
      go_wp2_with fail
      go_ret
      exact ⟨rfl, rfl⟩
set_option maxHeartbeats 1000000 in
theorem ref15_Into_mode (y n : Int) (l : Bool) (m : Int) (w : World) (hI : I64 y) (hm : S15.mode m = false) :
    Calls Tryd.prog 58 #[.int .i64 y, .agg #[.int .i64 n, .bool l], .int .i64 m] w fun e w' => e = .returned (.tuple #[.agg #[.int .i64 0, .bool false], .int .i64 1]) ∧ Below w.heap.size w w' := by
  have HM := Lib.hid (fun w => (hm ▸ ref15_mode m w : Calls Tryd.prog 95 #[.int .i64 m] w fun e w' => e = .returned (.bool false) ∧ w = w'))
  clear hm
  go_enter Tryd.func58, Tryd.ntmps58
  go_wp2_with fail
  refine settleC (fun W => CodeAt W w.heap.size n l ∧ CodeAt W (w.heap.size + 1) 0 false ∧ Below w.heap.size w W) ⟨CodeAt.below (codeAt_alloc _ _ _ _) (ba _ _), codeAt_alloc2 _ _ _ _ _, baa (ba _ _) _⟩ ?_
  rintro W0 ⟨hC0, hR0, hB0⟩
  have hq := hC0
  obtain ⟨c0, c1, cf, cs⟩ := hq
  have hq := hR0
  obtain ⟨r0, r1, rf, rs⟩ := hq
  refine (HM.out _).mono ?_
  rintro e w' ⟨rfl, rfl⟩
  go_wp2_with fail
  refine bodyPost_ret (v := .tuple #[.agg #[.int .i64 0, .bool false], .int .i64 1]) (by simp [results, Tryd.results58, go_sem, *]) rfl ⟨rfl, ?_⟩
  iterate 2 refine Below.setCell ?_ (by first | omega | (simp; done)) _
  exact hB0
set_option maxHeartbeats 1000000 in
theorem ref15_Into_year (y n : Int) (l : Bool) (m : Int) (w : World) (hI : I64 y) (hm : S15.mode m = true) (hy : Cal.yearIn y = false) :
    Calls Tryd.prog 58 #[.int .i64 y, .agg #[.int .i64 n, .bool l], .int .i64 m] w fun e w' => e = .returned (.tuple #[.agg #[.int .i64 0, .bool false], .int .i64 2]) ∧ Below w.heap.size w w' := by
  have HM := Lib.hid (fun w => (hm ▸ ref15_mode m w : Calls Tryd.prog 95 #[.int .i64 m] w fun e w' => e = .returned (.bool true) ∧ w = w'))
  clear hm
  have HY := Lib.hid (fun w => (hy ▸ ref7_Right y w hI : Calls Tryd.prog 96 #[.int .i64 y] w fun e w' => e = .returned (.bool false) ∧ w = w'))
  go_enter Tryd.func58, Tryd.ntmps58
  go_wp2_with fail
  refine settleC (fun W => CodeAt W w.heap.size n l ∧ CodeAt W (w.heap.size + 1) 0 false ∧ Below w.heap.size w W) ⟨CodeAt.below (codeAt_alloc _ _ _ _) (ba _ _), codeAt_alloc2 _ _ _ _ _, baa (ba _ _) _⟩ ?_
  rintro W0 ⟨hC0, hR0, hB0⟩
  have hq := hC0
  obtain ⟨c0, c1, cf, cs⟩ := hq
  have hq := hR0
  obtain ⟨r0, r1, rf, rs⟩ := hq
  refine (HM.out _).mono ?_
  rintro e w' ⟨rfl, rfl⟩
  go_wp2_with fail
  refine (HY.out _).mono ?_
  rintro e w' ⟨rfl, rfl⟩
  go_wp2_with fail
  refine bodyPost_ret (v := .tuple #[.agg #[.int .i64 0, .bool false], .int .i64 2]) (by simp [results, Tryd.results58, go_sem, *]) rfl ⟨rfl, ?_⟩
  iterate 2 refine Below.setCell ?_ (by first | omega | (simp; done)) _
  exact hB0
set_option maxHeartbeats 1000000 in
theorem ref15_Into_right (y n : Int) (l : Bool) (m : Int) (w : World) (hI : I64 y) (hm : S15.mode m = true) (h1 : 1 ≤ y) (h2 : y ≤ 9999) (hr : Cal.right n l = false) :
    Calls Tryd.prog 58 #[.int .i64 y, .agg #[.int .i64 n, .bool l], .int .i64 m] w fun e w' => e = .returned (.tuple #[.agg #[.int .i64 0, .bool false], .int .i64 3]) ∧ Below w.heap.size w w' := by
  have HM := Lib.hid (fun w => (hm ▸ ref15_mode m w : Calls Tryd.prog 95 #[.int .i64 m] w fun e w' => e = .returned (.bool true) ∧ w = w'))
  clear hm
  have hy := Cal.yearIn_yes y h1 h2
  have HY := Lib.hid (fun w => (hy ▸ ref7_Right y w hI : Calls Tryd.prog 96 #[.int .i64 y] w fun e w' => e = .returned (.bool true) ∧ w = w'))
  clear hy
  have HR := Lib.hid (fun w => (hr ▸ ref9_Right_any n l w : Calls Tryd.prog 97 #[.agg #[.int .i64 n, .bool l]] w fun e w' => e = .returned (.bool false) ∧ Below w.heap.size w w'))
  clear hr
  go_enter Tryd.func58, Tryd.ntmps58
  go_wp2_with fail
  refine settleC (fun W => CodeAt W w.heap.size n l ∧ CodeAt W (w.heap.size + 1) 0 false ∧ Below w.heap.size w W) ⟨CodeAt.below (codeAt_alloc _ _ _ _) (ba _ _), codeAt_alloc2 _ _ _ _ _, baa (ba _ _) _⟩ ?_
  rintro W0 ⟨hC0, hR0, hB0⟩
  have hq := hC0
  obtain ⟨c0, c1, cf, cs⟩ := hq
  have hq := hR0
  obtain ⟨r0, r1, rf, rs⟩ := hq
  refine (HM.out _).mono ?_
  rintro e w' ⟨rfl, rfl⟩
  go_wp2_with fail
  refine (HY.out _).mono ?_
  rintro e w' ⟨rfl, rfl⟩
  go_wp2_with fail
  refine (HR.out _).mono ?_
  rintro e W1 ⟨rfl, hb1⟩
  have hC1 := CodeAt.below hC0 hb1
  have hR1 := CodeAt.below hR0 hb1
  have hB1 := bt hB0 hb1
  clear c0 c1 cf cs r0 r1 rf rs
  have hq := hC1
  obtain ⟨c0, c1, cf, cs⟩ := hq
  have hq := hR1
  obtain ⟨r0, r1, rf, rs⟩ := hq
  go_wp2_with fail
  refine bodyPost_ret (v := .tuple #[.agg #[.int .i64 0, .bool false], .int .i64 3]) (by simp [results, Tryd.results58, go_sem, *]) rfl ⟨rfl, ?_⟩
  iterate 2 refine Below.setCell ?_ (by first | omega | (simp; done)) _
  exact hB1
set_option maxHeartbeats 1000000 in
theorem ref15_Into_ok0 (y n : Int) (l : Bool) (m : Int) (w : World) (hI : I64 y) (hm : S15.mode m = true) (h1 : 1 ≤ y) (h2 : y ≤ 9999) (hr : Cal.right n l = true) (hl : l = false) :
    Calls Tryd.prog 58 #[.int .i64 y, .agg #[.int .i64 n, .bool l], .int .i64 m] w fun e w' => e = .returned (.tuple #[.agg #[.int .i64 n, .bool false], .int .i64 0]) ∧ Below w.heap.size w w' := by
  have HM := Lib.hid (fun w => (hm ▸ ref15_mode m w : Calls Tryd.prog 95 #[.int .i64 m] w fun e w' => e = .returned (.bool true) ∧ w = w'))
  clear hm
  have hy := Cal.yearIn_yes y h1 h2
  have HY := Lib.hid (fun w => (hy ▸ ref7_Right y w hI : Calls Tryd.prog 96 #[.int .i64 y] w fun e w' => e = .returned (.bool true) ∧ w = w'))
  clear hy
  have HR := Lib.hid (fun w => (hr ▸ ref9_Right_any n l w : Calls Tryd.prog 97 #[.agg #[.int .i64 n, .bool l]] w fun e w' => e = .returned (.bool true) ∧ Below w.heap.size w w'))
  clear hr
  subst hl
  go_enter Tryd.func58, Tryd.ntmps58
  go_wp2_with fail
  refine settleC (fun W => CodeAt W w.heap.size n false ∧ CodeAt W (w.heap.size + 1) 0 false ∧ Below w.heap.size w W) ⟨CodeAt.below (codeAt_alloc _ _ _ _) (ba _ _), codeAt_alloc2 _ _ _ _ _, baa (ba _ _) _⟩ ?_
  rintro W0 ⟨hC0, hR0, hB0⟩
  have hq := hC0
  obtain ⟨c0, c1, cf, cs⟩ := hq
  have hq := hR0
  obtain ⟨r0, r1, rf, rs⟩ := hq
  refine (HM.out _).mono ?_
  rintro e w' ⟨rfl, rfl⟩
  go_wp2_with fail
  refine (HY.out _).mono ?_
  rintro e w' ⟨rfl, rfl⟩
  go_wp2_with fail
  refine (HR.out _).mono ?_
  rintro e W1 ⟨rfl, hb1⟩
  have hC1 := CodeAt.below hC0 hb1
  have hR1 := CodeAt.below hR0 hb1
  have hB1 := bt hB0 hb1
  clear c0 c1 cf cs r0 r1 rf rs
  have hq := hC1
  obtain ⟨c0, c1, cf, cs⟩ := hq
  have hq := hR1
  obtain ⟨r0, r1, rf, rs⟩ := hq
  go_wp2_with fail
  refine bodyPost_ret (v := .tuple #[.agg #[.int .i64 n, .bool false], .int .i64 0]) (by simp [results, Tryd.results58, go_sem, *]) rfl ⟨rfl, ?_⟩
  iterate 2 refine Below.setCell ?_ (by first | omega | (simp; done)) _
  exact hB1
set_option maxHeartbeats 1000000 in
theorem ref15_Into_ok1 (y n : Int) (l : Bool) (m : Int) (w : World) (hI : I64 y) (hm : S15.mode m = true) (h1 : 1 ≤ y) (h2 : y ≤ 9999) (hr : Cal.right n l = true) (hl : l = true) (hp : Cal.leap y = true) :
    Calls Tryd.prog 58 #[.int .i64 y, .agg #[.int .i64 n, .bool l], .int .i64 m] w fun e w' => e = .returned (.tuple #[.agg #[.int .i64 n, .bool true], .int .i64 0]) ∧ Below w.heap.size w w' := by
  have HM := Lib.hid (fun w => (hm ▸ ref15_mode m w : Calls Tryd.prog 95 #[.int .i64 m] w fun e w' => e = .returned (.bool true) ∧ w = w'))
  clear hm
  have hy := Cal.yearIn_yes y h1 h2
  have HY := Lib.hid (fun w => (hy ▸ ref7_Right y w hI : Calls Tryd.prog 96 #[.int .i64 y] w fun e w' => e = .returned (.bool true) ∧ w = w'))
  clear hy
  have HR := Lib.hid (fun w => (hr ▸ ref9_Right_any n l w : Calls Tryd.prog 97 #[.agg #[.int .i64 n, .bool l]] w fun e w' => e = .returned (.bool true) ∧ Below w.heap.size w w'))
  clear hr
  have HI := Lib.hid (fun w => (hp ▸ ref3_Is y w (by omega) (by omega) : Calls Tryd.prog 19 #[.int .i64 y] w fun e w' => e = .returned (.bool true) ∧ w = w'))
  clear hp
  subst hl
  go_enter Tryd.func58, Tryd.ntmps58
  go_wp2_with fail
  refine settleC (fun W => CodeAt W w.heap.size n true ∧ CodeAt W (w.heap.size + 1) 0 false ∧ Below w.heap.size w W) ⟨CodeAt.below (codeAt_alloc _ _ _ _) (ba _ _), codeAt_alloc2 _ _ _ _ _, baa (ba _ _) _⟩ ?_
  rintro W0 ⟨hC0, hR0, hB0⟩
  have hq := hC0
  obtain ⟨c0, c1, cf, cs⟩ := hq
  have hq := hR0
  obtain ⟨r0, r1, rf, rs⟩ := hq
  refine (HM.out _).mono ?_
  rintro e w' ⟨rfl, rfl⟩
  go_wp2_with fail
  refine (HY.out _).mono ?_
  rintro e w' ⟨rfl, rfl⟩
  go_wp2_with fail
  refine (HR.out _).mono ?_
  rintro e W1 ⟨rfl, hb1⟩
  have hC1 := CodeAt.below hC0 hb1
  have hR1 := CodeAt.below hR0 hb1
  have hB1 := bt hB0 hb1
  clear c0 c1 cf cs r0 r1 rf rs
  have hq := hC1
  obtain ⟨c0, c1, cf, cs⟩ := hq
  have hq := hR1
  obtain ⟨r0, r1, rf, rs⟩ := hq
  go_wp2_with fail
  refine (HI.out _).mono ?_
  rintro e w' ⟨rfl, rfl⟩
  go_wp2_with fail
  refine bodyPost_ret (v := .tuple #[.agg #[.int .i64 n, .bool true], .int .i64 0]) (by simp [results, Tryd.results58, go_sem, *]) rfl ⟨rfl, ?_⟩
  iterate 2 refine Below.setCell ?_ (by first | omega | (simp; done)) _
  exact hB1
set_option maxHeartbeats 1000000 in
theorem ref15_Into_rej (y n : Int) (l : Bool) (m : Int) (w : World) (hI : I64 y) (hm : S15.mode m = true) (h1 : 1 ≤ y) (h2 : y ≤ 9999) (hr : Cal.right n l = true) (hl : l = true) (hp : Cal.leap y = false) (h7 : m = 1) :
    Calls Tryd.prog 58 #[.int .i64 y, .agg #[.int .i64 n, .bool l], .int .i64 m] w fun e w' => e = .returned (.tuple #[.agg #[.int .i64 0, .bool false], .int .i64 7]) ∧ Below w.heap.size w w' := by
  subst h7
  have HM := Lib.hid (fun w => (hm ▸ ref15_mode 1 w : Calls Tryd.prog 95 #[.int .i64 1] w fun e w' => e = .returned (.bool true) ∧ w = w'))
  clear hm
  have hy := Cal.yearIn_yes y h1 h2
  have HY := Lib.hid (fun w => (hy ▸ ref7_Right y w hI : Calls Tryd.prog 96 #[.int .i64 y] w fun e w' => e = .returned (.bool true) ∧ w = w'))
  clear hy
  have HR := Lib.hid (fun w => (hr ▸ ref9_Right_any n l w : Calls Tryd.prog 97 #[.agg #[.int .i64 n, .bool l]] w fun e w' => e = .returned (.bool true) ∧ Below w.heap.size w w'))
  clear hr
  have HI := Lib.hid (fun w => (hp ▸ ref3_Is y w (by omega) (by omega) : Calls Tryd.prog 19 #[.int .i64 y] w fun e w' => e = .returned (.bool false) ∧ w = w'))
  clear hp
  subst hl
  go_enter Tryd.func58, Tryd.ntmps58
  go_wp2_with fail
  refine settleC (fun W => CodeAt W w.heap.size n true ∧ CodeAt W (w.heap.size + 1) 0 false ∧ Below w.heap.size w W) ⟨CodeAt.below (codeAt_alloc _ _ _ _) (ba _ _), codeAt_alloc2 _ _ _ _ _, baa (ba _ _) _⟩ ?_
  rintro W0 ⟨hC0, hR0, hB0⟩
  have hq := hC0
  obtain ⟨c0, c1, cf, cs⟩ := hq
  have hq := hR0
  obtain ⟨r0, r1, rf, rs⟩ := hq
  refine (HM.out _).mono ?_
  rintro e w' ⟨rfl, rfl⟩
  go_wp2_with fail
  refine (HY.out _).mono ?_
  rintro e w' ⟨rfl, rfl⟩
  go_wp2_with fail
  refine (HR.out _).mono ?_
  rintro e W1 ⟨rfl, hb1⟩
  have hC1 := CodeAt.below hC0 hb1
  have hR1 := CodeAt.below hR0 hb1
  have hB1 := bt hB0 hb1
  clear c0 c1 cf cs r0 r1 rf rs
  have hq := hC1
  obtain ⟨c0, c1, cf, cs⟩ := hq
  have hq := hR1
  obtain ⟨r0, r1, rf, rs⟩ := hq
  go_wp2_with fail
  refine (HI.out _).mono ?_
  rintro e w' ⟨rfl, rfl⟩
  go_wp2_with fail
  refine bodyPost_ret (v := .tuple #[.agg #[.int .i64 0, .bool false], .int .i64 7]) (by simp [results, Tryd.results58, go_sem, *]) rfl ⟨rfl, ?_⟩
  iterate 2 refine Below.setCell ?_ (by first | omega | (simp; done)) _
  exact hB1
set_option maxHeartbeats 1000000 in
theorem ref15_Into_six (y n : Int) (l : Bool) (m : Int) (w : World) (hI : I64 y) (hm : S15.mode m = true) (h1 : 1 ≤ y) (h2 : y ≤ 9999) (hr : Cal.right n l = true) (hl : l = true) (hp : Cal.leap y = false) (h7 : m = 0) :
    Calls Tryd.prog 58 #[.int .i64 y, .agg #[.int .i64 n, .bool l], .int .i64 m] w fun e w' => e = .returned (.tuple #[.agg #[.int .i64 6, .bool false], .int .i64 0]) ∧ Below w.heap.size w w' := by
  subst h7
  have HM := Lib.hid (fun w => (hm ▸ ref15_mode 0 w : Calls Tryd.prog 95 #[.int .i64 0] w fun e w' => e = .returned (.bool true) ∧ w = w'))
  clear hm
  have hy := Cal.yearIn_yes y h1 h2
  have HY := Lib.hid (fun w => (hy ▸ ref7_Right y w hI : Calls Tryd.prog 96 #[.int .i64 y] w fun e w' => e = .returned (.bool true) ∧ w = w'))
  clear hy
  have HR := Lib.hid (fun w => (hr ▸ ref9_Right_any n l w : Calls Tryd.prog 97 #[.agg #[.int .i64 n, .bool l]] w fun e w' => e = .returned (.bool true) ∧ Below w.heap.size w w'))
  clear hr
  have HI := Lib.hid (fun w => (hp ▸ ref3_Is y w (by omega) (by omega) : Calls Tryd.prog 19 #[.int .i64 y] w fun e w' => e = .returned (.bool false) ∧ w = w'))
  clear hp
  subst hl
  go_enter Tryd.func58, Tryd.ntmps58
  go_wp2_with fail
  refine settleC (fun W => CodeAt W w.heap.size n true ∧ CodeAt W (w.heap.size + 1) 0 false ∧ Below w.heap.size w W) ⟨CodeAt.below (codeAt_alloc _ _ _ _) (ba _ _), codeAt_alloc2 _ _ _ _ _, baa (ba _ _) _⟩ ?_
  rintro W0 ⟨hC0, hR0, hB0⟩
  have hq := hC0
  obtain ⟨c0, c1, cf, cs⟩ := hq
  have hq := hR0
  obtain ⟨r0, r1, rf, rs⟩ := hq
  refine (HM.out _).mono ?_
  rintro e w' ⟨rfl, rfl⟩
  go_wp2_with fail
  refine (HY.out _).mono ?_
  rintro e w' ⟨rfl, rfl⟩
  go_wp2_with fail
  refine (HR.out _).mono ?_
  rintro e W1 ⟨rfl, hb1⟩
  have hC1 := CodeAt.below hC0 hb1
  have hR1 := CodeAt.below hR0 hb1
  have hB1 := bt hB0 hb1
  clear c0 c1 cf cs r0 r1 rf rs
  have hq := hC1
  obtain ⟨c0, c1, cf, cs⟩ := hq
  have hq := hR1
  obtain ⟨r0, r1, rf, rs⟩ := hq
  go_wp2_with fail
  refine (HI.out _).mono ?_
  rintro e w' ⟨rfl, rfl⟩
  go_wp2_with fail
  refine bodyPost_ret (v := .tuple #[.agg #[.int .i64 6, .bool false], .int .i64 0]) (by simp [results, Tryd.results58, go_sem, *]) rfl ⟨rfl, ?_⟩
  iterate 2 refine Below.setCell ?_ (by first | omega | (simp; done)) _
  exact hB1
theorem ref15_Into (y n : Int) (l : Bool) (m : Int) (w : World) (hI : I64 y) :
    Calls Tryd.prog 58 #[.int .i64 y, .agg #[.int .i64 n, .bool l], .int .i64 m] w fun e w' => e = .returned (.tuple #[.agg #[.int .i64 (S15.intoN y n l m), .bool (S15.intoL y n l m)], .int .i64 (S15.intoE y n l m)]) ∧ Below w.heap.size w w' := by
  unfold S15.intoN S15.intoL
  cases hm : S15.mode m
  · rw [show S15.intoE y n l m = 1 by simp [S15.intoE, hm]]
    exact ref15_Into_mode y n l m w hI hm
  cases hy : Cal.yearIn y
  · rw [show S15.intoE y n l m = 2 by simp [S15.intoE, hm, hy]]
    exact ref15_Into_year y n l m w hI hm hy
  obtain ⟨h1, h2⟩ := D10.year_in y hy
  cases hr : Cal.right n l
  · rw [show S15.intoE y n l m = 3 by simp [S15.intoE, hm, hy, hr]]
    exact ref15_Into_right y n l m w hI hm h1 h2 hr
  cases hp : Cal.plOk (Cal.leap y) n l
  · by_cases c : m = 1
    · rw [show S15.intoE y n l m = 7 by subst c; simp [S15.intoE, hm, hy, hr, hp]]
      have hx : l = true ∧ Cal.leap y = false := by simpa [Cal.plOk, hr] using hp
      exact ref15_Into_rej y n l m w hI hm h1 h2 hr hx.1 hx.2 c
    · have c0 : m = 0 := by simp [S15.mode, c] at hm; exact hm
      rw [show S15.intoE y n l m = 0 by simp [S15.intoE, hm, hy, hr, hp, c]]
      have hx : l = true ∧ Cal.leap y = false := by simpa [Cal.plOk, hr] using hp
      exact ref15_Into_six y n l m w hI hm h1 h2 hr hx.1 hx.2 c0
  · rw [show S15.intoE y n l m = 0 by simp [S15.intoE, hm, hy, hr, hp]]
    cases hl : l
    · subst hl
      exact ref15_Into_ok0 y n false m w hI hm h1 h2 hr rfl
    · subst hl
      have hx : Cal.leap y = true := by simpa [Cal.plOk, hr] using hp
      exact ref15_Into_ok1 y n true m w hI hm h1 h2 hr rfl hx
end Go.Proofs.YtmiadhiomingmaaDoor
