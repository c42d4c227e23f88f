/- Layer 22: so many days behind another finder's day. -/
import Derived.Test.YtbmcpeccofadhaaDoorSpC
namespace Go.Proofs.YtbmcpeccofadhaaDoor
open Go.ChangeShapes Go.WideShapes Go.ChangeAt Go.RowKit Go.Lib Go.Sort Go.Shelf
set_option linter.unusedVariables false
set_option maxRecDepth 100000
set_option maxHeartbeats 2000000 in
theorem special_later1 (y days R : Int) (gf : FuncId) (b1 b2 : Nat) (B1 B2 : Nat) (w : World) (eg : (∀ args w, (callFunc gf args).run Tryd.prog w = .ok (.enter gf args) w)) (hr : -4000000 ≤ R ∧ R ≤ 4000000) (hd : -7 ≤ days ∧ days ≤ 7)
    (c1 : w.cell? ⟨B1, 0, none⟩ = some (.func (.func gf) #[] #[.pointer (some ⟨b1, 0, none⟩), .pointer (some ⟨b2, 0, none⟩)])) (c2 : w.cell? ⟨B2, 0, none⟩ = some (.int .i64 days))
    (HF : Hid (∀ W : World, Below w.heap.size w W → Calls Tryd.prog gf #[.int .i64 y, .pointer (some ⟨b1, 0, none⟩), .pointer (some ⟨b2, 0, none⟩)] W fun e w' => e = .returned (.int .i64 R) ∧ Below W.heap.size W w')) :
    Calls Tryd.prog 73 #[.int .i64 y, .pointer (some ⟨B1, 0, none⟩), .pointer (some ⟨B2, 0, none⟩)] w fun e w' => e = .returned (.int .i64 (R + days)) ∧ Below w.heap.size w w' := by
  have l1 : B1 < w.heap.size := World.block_lt_of_cell? _ _ c1
  have l2 : B2 < w.heap.size := World.block_lt_of_cell? _ _ c2
  obtain ⟨r1, r2⟩ := hr
  obtain ⟨d1, d2⟩ := hd
  go_enter Tryd.func73, Tryd.ntmps73
  go_wp2_with fail
  refine wp_region_class (by kernel_rfl) (by kernel_rfl) (fun hall => ?_)
  repeat (first | go_big_quiet_skip | (go_big_quiet_want; first | (refine quiet_load1 _ _ _ rfl rfl ?_ ?_ ?_; (focus (intro _; simp; done)); (focus (first | assumption | omega | (simp; done) | (simp; omega))); apply Exists.intro; refine ⟨?_, ?_⟩; assumption; go_simp; go_big_quiet_on) | (refine quiet_load2 _ _ _ _ rfl rfl ?_ ?_ ?_ ?_; (focus (intro _; simp; done)); (focus (intro _; simp; done)); (focus (first | assumption | omega | (simp; done) | (simp; omega))); apply Exists.intro; apply Exists.intro; refine ⟨?_, ?_, ?_⟩; assumption; assumption; go_simp; go_big_quiet_on) | (refine quiet_load3 _ _ _ _ rfl rfl ?_ ?_ ?_ ?_; (focus (intro _; simp; done)); (focus (intro _; simp; done)); (focus (first | assumption | omega | (simp; done) | (simp; omega))); apply Exists.intro; apply Exists.intro; apply Exists.intro; refine ⟨?_, ?_, ?_, ?_⟩; assumption; assumption; assumption; go_simp; go_big_quiet_on) | (refine quiet_load4 _ _ _ _ rfl rfl ?_ ?_ ?_ ?_; (focus (intro _; simp; done)); (focus (intro _; simp; done)); (focus (first | assumption | omega | (simp; done) | (simp; omega))); apply Exists.intro; apply Exists.intro; apply Exists.intro; apply Exists.intro; refine ⟨?_, ?_, ?_, ?_, ?_⟩; assumption; assumption; assumption; assumption; go_simp; go_big_quiet_on) | (go_big_quiet_op; first | go_big_quiet_on | (apply Exists.intro; refine ⟨fun x hx => ?_, ?_⟩; (first | (with_reducible exact call_below hx (HF.out x hx)) | exact call_below hx (HF.out x hx)); go_big_quiet_on))))
  refine wpQuiet_nil ?_
  clear hall
  intro x1 hx1
  go_wp2_with fail
  go_ret
  exact ⟨rfl, hx1⟩
set_option maxHeartbeats 2000000 in
theorem special_later (days : Int) (v : Value) (hv : v.oneCell' = true) (gf : FuncId) (cf : Array Value) (hf : v = .func (.func gf) #[] cf) (w : World) :
    Calls Tryd.prog 45 #[.int .i64 days, v] w fun e w' => e = .returned (.func (.func 73) #[] #[.pointer (some ⟨w.heap.size + 1, 0, none⟩), .pointer (some ⟨w.heap.size, 0, none⟩)]) ∧ w'.cell? ⟨w.heap.size + 1, 0, none⟩ = some v ∧ w'.cell? ⟨w.heap.size, 0, none⟩ = some (.int .i64 days) ∧ w.heap.size + 1 < w'.heap.size ∧ Below w.heap.size w w' := by
  subst hf
  clear hv
  go_enter Tryd.func45, Tryd.ntmps45
  go_wp2_with fail
  go_ret
  exact ⟨rfl, by simp [go_sem], by simp [go_sem], by simp, by repeat (first | (with_reducible exact Below.refl _ _) | (with_reducible assumption) | (with_reducible refine bdrew ?_) | (with_reducible refine baa ?_ _) | (with_reducible refine bs ?_ (by first | exact Nat.le_refl _ | omega | (simp; done) | (simp; omega)) _) | (with_reducible refine bt ?_ (by with_reducible assumption)))⟩
end Go.Proofs.YtbmcpeccofadhaaDoor
