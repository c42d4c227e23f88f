/- Layer 16: a walk from a date on, which lies in memory. -/
import Derived.Test.YtafenpgafmdenaaGreatDoorShiftN
import Derived.Test.YtafenpgafmdenaaGreatDoorUntil
import Derived.Deep.DrawnRows
namespace Go.Proofs.YtafenpgafmdenaaGreatDoor
open Go.ChangeShapes Go.WideShapes Go.ChangeAt Go.RowKit
set_option linter.unusedVariables false
set_option maxRecDepth 100000
/-- A date, a mode and an error, at block g. -/
def WalkAt (w : World) (g : Nat) (y n : Int) (l : Bool) (d m e : Int) : Prop :=
  w.cell? ⟨g, 0, none⟩ = some (.int .i64 y) ∧ w.cell? ⟨g, 1, none⟩ = some (.int .i64 n) ∧ w.cell? ⟨g, 2, none⟩ = some (.bool l) ∧ w.cell? ⟨g, 3, none⟩ = some (.int .i64 d) ∧ w.cell? ⟨g, 4, none⟩ = some (.int .i64 m) ∧ w.cell? ⟨g, 5, none⟩ = some (.int .i64 e) ∧ (∀ i, w.frozen? ⟨g, i, none⟩ = false) ∧ g < w.heap.size
theorem walk_set0 {w : World} {g : Nat} {y n : Int} {l : Bool} {d m e : Int} (h : WalkAt w g y n l d m e) (v : Int) : WalkAt (w.setCell ⟨g, 0, none⟩ (.int .i64 v)) g v n l d m e := by
  obtain ⟨h0, h1, h2, h3, h4, h5, hf, hs⟩ := h
  exact ⟨World.cell?_setCell_same _ _ _ h0, (World.cell?_setCell_other _ _ _ _ (by simp)).trans h1, (World.cell?_setCell_other _ _ _ _ (by simp)).trans h2, (World.cell?_setCell_other _ _ _ _ (by simp)).trans h3, (World.cell?_setCell_other _ _ _ _ (by simp)).trans h4, (World.cell?_setCell_other _ _ _ _ (by simp)).trans h5, fun i => by simp [go_sem, hf], by simpa [World.setCell] using hs⟩
theorem walk_set1 {w : World} {g : Nat} {y n : Int} {l : Bool} {d m e : Int} (h : WalkAt w g y n l d m e) (v : Int) : WalkAt (w.setCell ⟨g, 1, none⟩ (.int .i64 v)) g y v l d m e := by
  obtain ⟨h0, h1, h2, h3, h4, h5, hf, hs⟩ := h
  exact ⟨(World.cell?_setCell_other _ _ _ _ (by simp)).trans h0, World.cell?_setCell_same _ _ _ h1, (World.cell?_setCell_other _ _ _ _ (by simp)).trans h2, (World.cell?_setCell_other _ _ _ _ (by simp)).trans h3, (World.cell?_setCell_other _ _ _ _ (by simp)).trans h4, (World.cell?_setCell_other _ _ _ _ (by simp)).trans h5, fun i => by simp [go_sem, hf], by simpa [World.setCell] using hs⟩
theorem walk_set2 {w : World} {g : Nat} {y n : Int} {l : Bool} {d m e : Int} (h : WalkAt w g y n l d m e) (v : Bool) : WalkAt (w.setCell ⟨g, 2, none⟩ (.bool v)) g y n v d m e := by
  obtain ⟨h0, h1, h2, h3, h4, h5, hf, hs⟩ := h
  exact ⟨(World.cell?_setCell_other _ _ _ _ (by simp)).trans h0, (World.cell?_setCell_other _ _ _ _ (by simp)).trans h1, World.cell?_setCell_same _ _ _ h2, (World.cell?_setCell_other _ _ _ _ (by simp)).trans h3, (World.cell?_setCell_other _ _ _ _ (by simp)).trans h4, (World.cell?_setCell_other _ _ _ _ (by simp)).trans h5, fun i => by simp [go_sem, hf], by simpa [World.setCell] using hs⟩
theorem walk_set3 {w : World} {g : Nat} {y n : Int} {l : Bool} {d m e : Int} (h : WalkAt w g y n l d m e) (v : Int) : WalkAt (w.setCell ⟨g, 3, none⟩ (.int .i64 v)) g y n l v m e := by
  obtain ⟨h0, h1, h2, h3, h4, h5, hf, hs⟩ := h
  exact ⟨(World.cell?_setCell_other _ _ _ _ (by simp)).trans h0, (World.cell?_setCell_other _ _ _ _ (by simp)).trans h1, (World.cell?_setCell_other _ _ _ _ (by simp)).trans h2, World.cell?_setCell_same _ _ _ h3, (World.cell?_setCell_other _ _ _ _ (by simp)).trans h4, (World.cell?_setCell_other _ _ _ _ (by simp)).trans h5, fun i => by simp [go_sem, hf], by simpa [World.setCell] using hs⟩
theorem walk_set4 {w : World} {g : Nat} {y n : Int} {l : Bool} {d m e : Int} (h : WalkAt w g y n l d m e) (v : Int) : WalkAt (w.setCell ⟨g, 4, none⟩ (.int .i64 v)) g y n l d v e := by
  obtain ⟨h0, h1, h2, h3, h4, h5, hf, hs⟩ := h
  exact ⟨(World.cell?_setCell_other _ _ _ _ (by simp)).trans h0, (World.cell?_setCell_other _ _ _ _ (by simp)).trans h1, (World.cell?_setCell_other _ _ _ _ (by simp)).trans h2, (World.cell?_setCell_other _ _ _ _ (by simp)).trans h3, World.cell?_setCell_same _ _ _ h4, (World.cell?_setCell_other _ _ _ _ (by simp)).trans h5, fun i => by simp [go_sem, hf], by simpa [World.setCell] using hs⟩
theorem walk_set5 {w : World} {g : Nat} {y n : Int} {l : Bool} {d m e : Int} (h : WalkAt w g y n l d m e) (v : Int) : WalkAt (w.setCell ⟨g, 5, none⟩ (.int .i64 v)) g y n l d m v := by
  obtain ⟨h0, h1, h2, h3, h4, h5, hf, hs⟩ := h
  exact ⟨(World.cell?_setCell_other _ _ _ _ (by simp)).trans h0, (World.cell?_setCell_other _ _ _ _ (by simp)).trans h1, (World.cell?_setCell_other _ _ _ _ (by simp)).trans h2, (World.cell?_setCell_other _ _ _ _ (by simp)).trans h3, (World.cell?_setCell_other _ _ _ _ (by simp)).trans h4, World.cell?_setCell_same _ _ _ h5, fun i => by simp [go_sem, hf], by simpa [World.setCell] using hs⟩
theorem walk_below {w w' : World} {g : Nat} {y n : Int} {l : Bool} {d m e : Int} (h : WalkAt w g y n l d m e) (hb : Below w.heap.size w w') : WalkAt w' g y n l d m e := by
  obtain ⟨h0, h1, h2, h3, h4, h5, hf, hs⟩ := h
  have c := fun i => hb.cell (p := ⟨g, i, none⟩) hs
  exact ⟨(c 0).trans h0, (c 1).trans h1, (c 2).trans h2, (c 3).trans h3, (c 4).trans h4, (c 5).trans h5, fun i => (hb.frozen (p := ⟨g, i, none⟩) hs).trans (hf i), Nat.lt_of_lt_of_le hs hb.size⟩
theorem walk_drew {w : World} {g : Nat} {y n : Int} {l : Bool} {d m e : Int} (h : WalkAt w g y n l d m e) : WalkAt w.drew g y n l d m e := walk_below h (Below.refl _ _).drew
set_option maxHeartbeats 4000000 in
theorem walk_years_err (k : Int) (y n : Int) (l : Bool) (d m er : Int) (he : ¬ er = 0) (g : Nat) (w : World) (hp : WalkAt w g y n l d m er) :
    Calls Tryz.prog 66 #[.pointer (some ⟨g, 0, none⟩), .int .i64 k] w fun e w' => e = .returned (.tuple #[]) ∧ WalkAt w' g y n l d m er ∧ But g w w' := by
  have hq := hp
  obtain ⟨p0, p1, p2, p3, p4, p5, pf, ps⟩ := hq
  have he2 : (er != 0) = true := by simpa using he
  clear he
  go_enter Tryz.func66, Tryz.ntmps66
  go_wp2_with fail
  refine bodyPost_ret (v := .tuple #[]) (by simp [results, Tryz.results66, go_sem]) rfl ?_
  exact ⟨rfl, hp, But.of (Below.refl _ _)⟩
set_option maxHeartbeats 4000000 in
theorem walk_months_err (k : Int) (y n : Int) (l : Bool) (d m er : Int) (he : ¬ er = 0) (g : Nat) (w : World) (hp : WalkAt w g y n l d m er) :
    Calls Tryz.prog 67 #[.pointer (some ⟨g, 0, none⟩), .int .i64 k] w fun e w' => e = .returned (.tuple #[]) ∧ WalkAt w' g y n l d m er ∧ But g w w' := by
  have hq := hp
  obtain ⟨p0, p1, p2, p3, p4, p5, pf, ps⟩ := hq
  have he2 : (er != 0) = true := by simpa using he
  clear he
  go_enter Tryz.func67, Tryz.ntmps67
  go_wp2_with fail
  refine bodyPost_ret (v := .tuple #[]) (by simp [results, Tryz.results67, go_sem]) rfl ?_
  exact ⟨rfl, hp, But.of (Below.refl _ _)⟩
set_option maxHeartbeats 4000000 in
theorem walk_fit_err (y n : Int) (l : Bool) (d m er : Int) (he : ¬ er = 0) (g : Nat) (w : World) (hp : WalkAt w g y n l d m er) :
    Calls Tryz.prog 68 #[.pointer (some ⟨g, 0, none⟩)] w fun e w' => e = .returned (.tuple #[]) ∧ WalkAt w' g y n l d m er ∧ But g w w' := by
  have hq := hp
  obtain ⟨p0, p1, p2, p3, p4, p5, pf, ps⟩ := hq
  have he2 : (er != 0) = true := by simpa using he
  clear he
  go_enter Tryz.func68, Tryz.ntmps68
  go_wp2_with fail
  refine bodyPost_ret (v := .tuple #[]) (by simp [results, Tryz.results68, go_sem]) rfl ?_
  exact ⟨rfl, hp, But.of (Below.refl _ _)⟩
set_option maxHeartbeats 4000000 in
theorem walk_days_err (k : Int) (y n : Int) (l : Bool) (d m er : Int) (he : ¬ er = 0) (g : Nat) (w : World) (hp : WalkAt w g y n l d m er) :
    Calls Tryz.prog 69 #[.pointer (some ⟨g, 0, none⟩), .int .i64 k] w fun e w' => e = .returned (.tuple #[]) ∧ WalkAt w' g y n l d m er ∧ But g w w' := by
  have hq := hp
  obtain ⟨p0, p1, p2, p3, p4, p5, pf, ps⟩ := hq
  have he2 : (er != 0) = true := by simpa using he
  clear he
  go_enter Tryz.func69, Tryz.ntmps69
  go_wp2_with fail
  refine bodyPost_ret (v := .tuple #[]) (by simp [results, Tryz.results69, go_sem]) rfl ?_
  exact ⟨rfl, hp, But.of (Below.refl _ _)⟩
set_option maxHeartbeats 4000000 in
theorem walk_years (k : Int) (y n : Int) (l : Bool) (d m : Int) (hy : 1 ≤ y ∧ y ≤ 9999) (hk : -4000000 ≤ k ∧ k ≤ 4000000) (g : Nat) (w : World) (hp : WalkAt w g y n l d m 0) :
    Calls Tryz.prog 66 #[.pointer (some ⟨g, 0, none⟩), .int .i64 k] w fun e w' => e = .returned (.tuple #[]) ∧ WalkAt w' g (y + k) (S15.intoN (y + k) n l m) (S15.intoL (y + k) n l m) d m (S15.intoE (y + k) n l m) ∧ But g w w' := by
  have hq := hp
  obtain ⟨p0, p1, p2, p3, p4, p5, pf, ps⟩ := hq
  obtain ⟨y1, y2⟩ := hy
  obtain ⟨k1, k2⟩ := hk
  have HI := Lib.hid (fun w => shift_Into (y + k) n l m w)
  generalize S15.intoN (y + k) n l m = rn at *
  generalize S15.intoL (y + k) n l m = rl at *
  generalize S15.intoE (y + k) n l m = re at *
  go_enter Tryz.func66, Tryz.ntmps66
  go_wp2_with fail
  refine settle (fun W => WalkAt W g (y + k) n l d m 0 ∧ But g w W) ⟨walk_set0 hp _, But.set (But.of (Below.refl _ _)) _ _⟩ ?_
  rintro W1 ⟨hP1, hB1⟩
  clear p0 p1 p2 p3 p4 p5 pf ps
  have hq := hP1
  obtain ⟨p0, p1, p2, p3, p4, p5, pf, ps⟩ := hq
  refine wp_region_until 16 (by kernel_rfl) ?_
  refine until_pure (i := 0) (v := ?_) rfl (by kernel_rfl) (by kernel_rfl) (by kernel_rfl) (by kernel_rfl) (fun _ _ _ h => h) (fun _ => rfl) (Or.inl ⟨by rfl, ?_⟩) ?_
  rotate_left 1
  · first | (intro w; go_simp; done) | (intro w; go_simp; with_reducible rfl)
  try simp only [Act.put]
  try simp only [List.setIfInBounds_toArray]
  refine until_pure (i := 1) (v := ?_) rfl (by kernel_rfl) (by kernel_rfl) (by kernel_rfl) (by kernel_rfl) (fun _ _ _ h => h) (fun _ => rfl) (Or.inl ⟨by rfl, ?_⟩) ?_
  rotate_left 1
  · first | (intro w; go_simp; done) | (intro w; go_simp; with_reducible rfl)
  try simp only [Act.put]
  try simp only [List.setIfInBounds_toArray]
  refine until_pure (i := 2) (v := ?_) rfl (by kernel_rfl) (by kernel_rfl) (by kernel_rfl) (by kernel_rfl) (fun _ _ _ h => h) (fun _ => rfl) (Or.inl ⟨by rfl, ?_⟩) ?_
  rotate_left 1
  · first | (intro w; go_simp; done) | (intro w; go_simp; with_reducible rfl)
  try simp only [Act.put]
  try simp only [List.setIfInBounds_toArray]
  refine until_pure (i := 3) (v := ?_) rfl (by kernel_rfl) (by kernel_rfl) (by kernel_rfl) (by kernel_rfl) (fun _ _ _ h => h) (fun _ => rfl) (Or.inl ⟨by rfl, ?_⟩) ?_
  rotate_left 1
  · first | (intro w; go_simp; done) | (intro w; go_simp; with_reducible rfl)
  try simp only [Act.put]
  try simp only [List.setIfInBounds_toArray]
  refine until_pure (i := 4) (v := ?_) rfl (by kernel_rfl) (by kernel_rfl) (by kernel_rfl) (by kernel_rfl) (fun _ _ _ h => h) (fun _ => rfl) (Or.inl ⟨by rfl, ?_⟩) ?_
  rotate_left 1
  · first | (intro w; go_simp; done) | (intro w; go_simp; with_reducible rfl)
  try simp only [Act.put]
  try simp only [List.setIfInBounds_toArray]
  refine until_pure (i := 5) (v := ?_) rfl (by kernel_rfl) (by kernel_rfl) (by kernel_rfl) (by kernel_rfl) (fun _ _ _ h => h) (fun _ => rfl) (Or.inl ⟨by rfl, ?_⟩) ?_
  rotate_left 1
  · first | (intro w; go_simp; done) | (intro w; go_simp; with_reducible rfl)
  try simp only [Act.put]
  try simp only [List.setIfInBounds_toArray]
  refine until_read (i := 6) (v := ?_) rfl (by kernel_rfl) (by kernel_rfl) (by kernel_rfl) (by kernel_rfl) (fun _ _ _ h => h) (by rfl) ?_ ?_
  rotate_left 1
  · first | (go_simp; done) | (go_simp; with_reducible rfl)
  try simp only [Act.put]
  try simp only [List.setIfInBounds_toArray]
  refine until_pure (i := 7) (v := ?_) rfl (by kernel_rfl) (by kernel_rfl) (by kernel_rfl) (by kernel_rfl) (fun _ _ _ h => h) (fun _ => rfl) (Or.inl ⟨by rfl, ?_⟩) ?_
  rotate_left 1
  · first | (intro w; go_simp; done) | (intro w; go_simp; with_reducible rfl)
  try simp only [Act.put]
  try simp only [List.setIfInBounds_toArray]
  refine until_pure (i := 8) (v := ?_) rfl (by kernel_rfl) (by kernel_rfl) (by kernel_rfl) (by kernel_rfl) (fun _ _ _ h => h) (fun _ => rfl) (Or.inl ⟨by rfl, ?_⟩) ?_
  rotate_left 1
  · first | (intro w; go_simp; done) | (intro w; go_simp; with_reducible rfl)
  try simp only [Act.put]
  try simp only [List.setIfInBounds_toArray]
  refine until_pure (i := 9) (v := ?_) rfl (by kernel_rfl) (by kernel_rfl) (by kernel_rfl) (by kernel_rfl) (fun _ _ _ h => h) (fun _ => rfl) (Or.inl ⟨by rfl, ?_⟩) ?_
  rotate_left 1
  · first | (intro w; go_simp; done) | (intro w; go_simp; with_reducible rfl)
  try simp only [Act.put]
  try simp only [List.setIfInBounds_toArray]
  refine until_pure (i := 10) (v := ?_) rfl (by kernel_rfl) (by kernel_rfl) (by kernel_rfl) (by kernel_rfl) (fun _ _ _ h => h) (fun _ => rfl) (Or.inl ⟨by rfl, ?_⟩) ?_
  rotate_left 1
  · first | (intro w; go_simp; done) | (intro w; go_simp; with_reducible rfl)
  try simp only [Act.put]
  try simp only [List.setIfInBounds_toArray]
  refine until_read (i := 11) (v := ?_) rfl (by kernel_rfl) (by kernel_rfl) (by kernel_rfl) (by kernel_rfl) (fun _ _ _ h => h) (by rfl) ?_ ?_
  rotate_left 1
  · first | (go_simp; done) | (go_simp; with_reducible rfl)
  try simp only [Act.put]
  try simp only [List.setIfInBounds_toArray]
  refine until_pure (i := 12) (v := ?_) rfl (by kernel_rfl) (by kernel_rfl) (by kernel_rfl) (by kernel_rfl) (fun _ _ _ h => h) (fun _ => rfl) (Or.inl ⟨by rfl, ?_⟩) ?_
  rotate_left 1
  · first | (intro w; go_simp; done) | (intro w; go_simp; with_reducible rfl)
  try simp only [Act.put]
  try simp only [List.setIfInBounds_toArray]
  refine until_pure (i := 13) (v := ?_) rfl (by kernel_rfl) (by kernel_rfl) (by kernel_rfl) (by kernel_rfl) (fun _ _ _ h => h) (fun _ => rfl) (Or.inl ⟨by rfl, ?_⟩) ?_
  rotate_left 1
  · first | (intro w; go_simp; done) | (intro w; go_simp; with_reducible rfl)
  try simp only [Act.put]
  try simp only [List.setIfInBounds_toArray]
  refine until_pure (i := 14) (v := ?_) rfl (by kernel_rfl) (by kernel_rfl) (by kernel_rfl) (by kernel_rfl) (fun _ _ _ h => h) (fun _ => rfl) (Or.inl ⟨by rfl, ?_⟩) ?_
  rotate_left 1
  · first | (intro w; go_simp; done) | (intro w; go_simp; with_reducible rfl)
  try simp only [Act.put]
  try simp only [List.setIfInBounds_toArray]
  refine until_read (i := 15) (v := ?_) rfl (by kernel_rfl) (by kernel_rfl) (by kernel_rfl) (by kernel_rfl) (fun _ _ _ h => h) (by rfl) ?_ ?_
  rotate_left 1
  · first | (go_simp; done) | (go_simp; with_reducible rfl)
  try simp only [Act.put]
  try simp only [List.setIfInBounds_toArray]
  refine until_one (k := 16) rfl (by kernel_rfl) (by kernel_rfl) (fun K hK => ?_)
  go_simp
  refine (HI.out _).mono ?_
  rintro e w7 ⟨rfl, hb7⟩
  have hP7 := walk_below (walk_drew hP1) hb7
  clear p0 p1 p2 p3 p4 p5 pf ps
  have hq := hP7
  obtain ⟨p0, p1, p2, p3, p4, p5, pf, ps⟩ := hq
  go_wp2_with fail
  refine hK.out _ _ ?_
  clear hK K
  try simp only [Act.put]
  try simp only [List.setIfInBounds_toArray]
  refine until_pure (i := 17) (v := ?_) rfl (by kernel_rfl) (by kernel_rfl) (by kernel_rfl) (by kernel_rfl) (fun _ _ _ h => h) (fun h => by cases h) (Or.inl ⟨by rfl, ?_⟩) ?_
  rotate_left 1
  · first | (intro w; go_simp; done) | (intro w; go_simp; with_reducible rfl)
  try simp only [Act.put]
  try simp only [List.setIfInBounds_toArray]
  refine until_pure (i := 18) (v := ?_) rfl (by kernel_rfl) (by kernel_rfl) (by kernel_rfl) (by kernel_rfl) (fun _ _ _ h => h) (fun h => by cases h) (Or.inl ⟨by rfl, ?_⟩) ?_
  rotate_left 1
  · first | (intro w; go_simp; done) | (intro w; go_simp; with_reducible rfl)
  try simp only [Act.put]
  try simp only [List.setIfInBounds_toArray]
  refine until_pure (i := 19) (v := ?_) rfl (by kernel_rfl) (by kernel_rfl) (by kernel_rfl) (by kernel_rfl) (fun _ _ _ h => h) (fun h => by cases h) (Or.inl ⟨by rfl, ?_⟩) ?_
  rotate_left 1
  · first | (intro w; go_simp; done) | (intro w; go_simp; with_reducible rfl)
  try simp only [Act.put]
  try simp only [List.setIfInBounds_toArray]
  refine until_pure (i := 20) (v := ?_) rfl (by kernel_rfl) (by kernel_rfl) (by kernel_rfl) (by kernel_rfl) (fun _ _ _ h => h) (fun h => by cases h) (Or.inl ⟨by rfl, ?_⟩) ?_
  rotate_left 1
  · first | (intro w; go_simp; done) | (intro w; go_simp; with_reducible rfl)
  try simp only [Act.put]
  try simp only [List.setIfInBounds_toArray]
  refine until_pure (i := 21) (v := ?_) rfl (by kernel_rfl) (by kernel_rfl) (by kernel_rfl) (by kernel_rfl) (fun _ _ _ h => h) (fun h => by cases h) (Or.inl ⟨by rfl, ?_⟩) ?_
  rotate_left 1
  · first | (intro w; go_simp; done) | (intro w; go_simp; with_reducible rfl)
  try simp only [Act.put]
  try simp only [List.setIfInBounds_toArray]
  refine until_pure (i := 22) (v := ?_) rfl (by kernel_rfl) (by kernel_rfl) (by kernel_rfl) (by kernel_rfl) (fun _ _ _ h => h) (fun h => by cases h) (Or.inl ⟨by rfl, ?_⟩) ?_
  rotate_left 1
  · first | (intro w; go_simp; done) | (intro w; go_simp; with_reducible rfl)
  try simp only [Act.put]
  try simp only [List.setIfInBounds_toArray]
  refine until_one (k := 23) rfl (by kernel_rfl) (by kernel_rfl) (fun K hK => ?_)
  go_simp
  refine hK.out _ _ ?_
  clear hK K
  try simp only [Act.put]
  try simp only [List.setIfInBounds_toArray]
  refine until_pure (i := 24) (v := ?_) rfl (by kernel_rfl) (by kernel_rfl) (by kernel_rfl) (by kernel_rfl) (fun _ _ _ h => h) (fun h => by cases h) (Or.inl ⟨by rfl, ?_⟩) ?_
  rotate_left 1
  · first | (intro w; go_simp; done) | (intro w; go_simp; with_reducible rfl)
  try simp only [Act.put]
  try simp only [List.setIfInBounds_toArray]
  refine until_pure (i := 25) (v := ?_) rfl (by kernel_rfl) (by kernel_rfl) (by kernel_rfl) (by kernel_rfl) (fun _ _ _ h => h) (fun h => by cases h) (Or.inl ⟨by rfl, ?_⟩) ?_
  rotate_left 1
  · first | (intro w; go_simp; done) | (intro w; go_simp; with_reducible rfl)
  try simp only [Act.put]
  try simp only [List.setIfInBounds_toArray]
  refine until_one (k := 26) rfl (by kernel_rfl) (by kernel_rfl) (fun K hK => ?_)
  go_simp
  refine hK.out _ _ ?_
  clear hK K
  try simp only [Act.put]
  try simp only [List.setIfInBounds_toArray]
  refine until_done (by kernel_rfl) ?_ _
  go_wp2_with fail
  refine bodyPost_end (v := .tuple #[]) (by simp [results, Tryz.results66, go_sem]) rfl ?_
  exact ⟨rfl, walk_set5 (walk_set2 (walk_set1 hP7 _) _) _, But.set (But.set (But.set (But.bt (But.drew hB1) hb7) _ _) _ _) _ _⟩
set_option maxHeartbeats 4000000 in
theorem walk_days_no (k : Int) (y n : Int) (l : Bool) (d m : Int) (hy : I64 y) (he : D10.dateE y n l d = 0) (hk : -40000000 ≤ k ∧ k ≤ 40000000) (hD : D10.dayV y n l d + k < -1373427 ∨ 2278650 < D10.dayV y n l d + k) (g : Nat) (w : World) (hT : Tab w 8 kevCells) (hL : Tab w 6 lenCells) (hp : WalkAt w g y n l d m 0) :
    Calls Tryz.prog 69 #[.pointer (some ⟨g, 0, none⟩), .int .i64 k] w fun e w' => e = .returned (.tuple #[]) ∧ WalkAt w' g 0 0 false 0 m 2 ∧ But g w w' := by
  have hq := hp
  obtain ⟨p0, p1, p2, p3, p4, p5, pf, ps⟩ := hq
  obtain ⟨k1, k2⟩ := hk
  obtain ⟨_, d1, d2⟩ := D10.dayV_ok y n l d he
  have HT := Lib.hid (fun w hT hL => heb_ToDay y n l d w hy hT hL)
  rw [he] at HT
  clear he
  have HF := Lib.hid (fun w => heb_FromDay_no (D10.dayV y n l d + k) w hD)
  clear hD
  generalize D10.dayV y n l d = D at *
  go_enter Tryz.func69, Tryz.ntmps69
  go_wp2_with fail
  refine (HT.out _ hT hL).mono ?_
  rintro e w1 ⟨rfl, hb1⟩
  have hP1 := walk_below hp hb1
  have hT1 := Tab.below hT hb1
  have hL1 := Tab.below hL hb1
  clear p0 p1 p2 p3 p4 p5 pf ps
  have hq := hP1
  obtain ⟨p0, p1, p2, p3, p4, p5, pf, ps⟩ := hq
  go_wp2_with fail
  refine (HF.out _).mono ?_
  rintro e w2 ⟨rfl, hb2⟩
  have hP2 := walk_below hP1 hb2
  clear p0 p1 p2 p3 p4 p5 pf ps
  have hq := hP2
  obtain ⟨p0, p1, p2, p3, p4, p5, pf, ps⟩ := hq
  go_wp2_with fail
  refine bodyPost_end (v := .tuple #[]) (by simp [results, Tryz.results69, go_sem]) rfl ?_
  exact ⟨rfl, walk_set5 (walk_set3 (walk_set2 (walk_set1 (walk_set0 hP2 _) _) _) _) _, But.set (But.set (But.set (But.set (But.set (But.bt (But.of hb1) hb2) _ _) _ _) _ _) _ _) _ _⟩
set_option maxHeartbeats 4000000 in
theorem walk_days_at (k : Int) (y n : Int) (l : Bool) (d m : Int) (hy : I64 y) (he : D10.dateE y n l d = 0) (hk : -40000000 ≤ k ∧ k ≤ 40000000) (ry rm rd : Int) (hv : D10.Valid ry rm rd) (hD : D10.dayV y n l d + k = D10.dayOf ry rm rd) (g : Nat) (w : World) (hT : Tab w 8 kevCells) (hL : Tab w 6 lenCells) (hp : WalkAt w g y n l d m 0) :
    Calls Tryz.prog 69 #[.pointer (some ⟨g, 0, none⟩), .int .i64 k] w fun e w' => e = .returned (.tuple #[]) ∧ WalkAt w' g ry (Cal.ofN (Cal.leap ry) rm) (Cal.ofL (Cal.leap ry) rm) rd m 0 ∧ But g w w' := by
  have hq := hp
  obtain ⟨p0, p1, p2, p3, p4, p5, pf, ps⟩ := hq
  obtain ⟨k1, k2⟩ := hk
  obtain ⟨_, d1, d2⟩ := D10.dayV_ok y n l d he
  have HT := Lib.hid (fun w hT hL => heb_ToDay y n l d w hy hT hL)
  rw [he] at HT
  clear he
  have HF := Lib.hid (fun w hT hL => heb_FromDay_at ry rm rd w hT hL hv)
  rw [← hD] at HF
  clear hD hv
  generalize Cal.ofN (Cal.leap ry) rm = rn at *
  generalize Cal.ofL (Cal.leap ry) rm = rl at *
  generalize D10.dayV y n l d = D at *
  go_enter Tryz.func69, Tryz.ntmps69
  go_wp2_with fail
  refine (HT.out _ hT hL).mono ?_
  rintro e w1 ⟨rfl, hb1⟩
  have hP1 := walk_below hp hb1
  have hT1 := Tab.below hT hb1
  have hL1 := Tab.below hL hb1
  clear p0 p1 p2 p3 p4 p5 pf ps
  have hq := hP1
  obtain ⟨p0, p1, p2, p3, p4, p5, pf, ps⟩ := hq
  go_wp2_with fail
  refine (HF.out _ hT1 hL1).mono ?_
  rintro e w2 ⟨rfl, hb2⟩
  have hP2 := walk_below hP1 hb2
  clear p0 p1 p2 p3 p4 p5 pf ps
  have hq := hP2
  obtain ⟨p0, p1, p2, p3, p4, p5, pf, ps⟩ := hq
  go_wp2_with fail
  refine bodyPost_end (v := .tuple #[]) (by simp [results, Tryz.results69, go_sem]) rfl ?_
  exact ⟨rfl, walk_set5 (walk_set3 (walk_set2 (walk_set1 (walk_set0 hP2 _) _) _) _) _, But.set (But.set (But.set (But.set (But.set (But.bt (But.of hb1) hb2) _ _) _ _) _ _) _ _) _ _⟩
end Go.Proofs.YtafenpgafmdenaaGreatDoor
