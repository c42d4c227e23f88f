/- Layer 24: TorahPlaces. -/
import Derived.Test.YtoofgalkchnpnaaGreatDoorZW24
import Derived.Test.YtoofgalkchnpnaaGreatDoorZTp
namespace Go.Proofs.YtoofgalkchnpnaaGreatDoor
open Go.ChangeShapes Go.WideShapes Go.ChangeAt Go.RowKit Go.Lib Go.Sort Go.Shelf
set_option linter.unusedVariables false
set_option linter.unusedSimpArgs false
set_option maxRecDepth 100000
namespace Rd
/-- In both places the same days, and the same readings in the first and the fourth part. -/
def like (i : Nat) : Bool := decide ((cyc0 i false).length = (cyc0 i true).length) && (decide (0 < (cyc0 i false).length) && ((cyc0 i false).zip (cyc0 i true)).all fun x => decide (x.1.2.2 = x.2.2.2) && ((part0 i x.1.2.2 != 0 && part0 i x.1.2.2 != 3) || decide (x.1 = x.2)))
theorem like_all : ((List.range 14).all like) = true := by decide +kernel
theorem like_at {i : Nat} (hi : i < 14) : (cyc0 i false).length = (cyc0 i true).length ∧ 0 < (cyc0 i false).length ∧ ∀ (j : Nat) a b, (cyc0 i false)[j]? = some a → (cyc0 i true)[j]? = some b → a.2.2 = b.2.2 ∧ (part0 i a.2.2 = 0 ∨ part0 i a.2.2 = 3 → a = b) := by
  have h := List.all_eq_true.1 like_all i (List.mem_range.2 hi)
  simp only [like, Bool.and_eq_true, decide_eq_true_eq] at h
  refine ⟨h.1, h.2.1, fun j a b ha hb => ?_⟩
  have hz : ((cyc0 i false).zip (cyc0 i true))[j]? = some (a, b) := by rw [List.getElem?_zip_eq_some]; exact ⟨ha, hb⟩
  have k := List.all_eq_true.1 h.2.2 (a, b) (List.mem_of_getElem? hz)
  simp only [Bool.and_eq_true, decide_eq_true_eq, Bool.or_eq_true, bne_iff_ne, ne_eq] at k
  refine ⟨k.1, fun hp => ?_⟩
  rcases k.2 with k | k
  · rcases hp with hp | hp
    · exact absurd hp k.1
    · exact absurd hp k.2
  · exact k
end Rd
set_option maxHeartbeats 4000000 in
theorem TorahPlaces_go (y : Int) (n : Nat) (La Lb : List Rd) (part : Int → Nat) (w : World) (hy : 0 ≤ y ∧ y ≤ 65535) (hT : Tab w 4 kevCells) (hL : Tab w 3 lenCells) (hF : Tab w 2 Fe.cells) (hla : La.length = n) (hlb : Lb.length = n) (hn0 : 0 < n) (hn : n ≤ 100)
    (HL : Hid (∀ (j : Nat) a b, La[j]? = some a → Lb[j]? = some b → a.2.2 = b.2.2 ∧ (part a.2.2 = 0 ∨ part a.2.2 = 3 → a = b)))
    (HD : Hid (∀ d, part d < 5))
    (HA : Hid (∀ w : World, Tab w 4 kevCells → Tab w 3 lenCells → Tab w 2 Fe.cells → Calls Tryo.prog 17 #[.int .i64 (1 + y % 9998), .int .i64 0] w fun e w' => ∃ v, e = .returned (.tuple #[v, .int .i64 0]) ∧ Rd.Own w' w.heap.size v La ∧ Below w.heap.size w w'))
    (HB : Hid (∀ w : World, Tab w 4 kevCells → Tab w 3 lenCells → Tab w 2 Fe.cells → Calls Tryo.prog 17 #[.int .i64 (1 + y % 9998), .int .i64 1] w fun e w' => ∃ v, e = .returned (.tuple #[v, .int .i64 0]) ∧ Rd.Own w' w.heap.size v Lb ∧ Below w.heap.size w w'))
    (HP : Hid (∀ (d : Int) (w : World), Calls Tryo.prog 29 #[.int .i64 (1 + y % 9998), .int .i64 d] w fun e w' => e = .returned (.tuple #[.int .i64 ((part d : Int) + 1), .int .i64 0]) ∧ Below w.heap.size w w'))
    (HW : Hid (∀ W, Below w.heap.size w W → Calls Tryo.prog 21 #[] W fun e w' => e = .returned (.bool true) ∧ Below W.heap.size W w')) :
    Calls Tryo.prog 8 #[.int .u16 y] w fun e w' => e = .returned (.bool true) ∧ Below w.heap.size w w' := by
  obtain ⟨y1, y2⟩ := hy
  have k0 : y.tmod 9998 = y % 9998 := Int.tmod_eq_emod_of_nonneg y1
  have k1 := Int.emod_nonneg y (show (9998 : Int) ≠ 0 by decide)
  have k2 := Int.emod_lt_of_pos y (show (0 : Int) < 9998 by decide)
  go_enter Tryo.func8, Tryz.ntmps8
  go_wp2_with fail
  refine (HA.out _ (Tab.below hT (by repeat (first | (with_reducible exact Below.refl _ _) | (with_reducible assumption) | (with_reducible refine bdrew ?_) | (with_reducible refine baa ?_ _) | (with_reducible refine bs ?_ (by first | exact Nat.le_refl _ | omega | (simp; done) | (simp; omega)) _) | (with_reducible refine bt ?_ (by with_reducible assumption))))) (Tab.below hL (by repeat (first | (with_reducible exact Below.refl _ _) | (with_reducible assumption) | (with_reducible refine bdrew ?_) | (with_reducible refine baa ?_ _) | (with_reducible refine bs ?_ (by first | exact Nat.le_refl _ | omega | (simp; done) | (simp; omega)) _) | (with_reducible refine bt ?_ (by with_reducible assumption))))) (Tab.below hF (by repeat (first | (with_reducible exact Below.refl _ _) | (with_reducible assumption) | (with_reducible refine bdrew ?_) | (with_reducible refine baa ?_ _) | (with_reducible refine bs ?_ (by first | exact Nat.le_refl _ | omega | (simp; done) | (simp; omega)) _) | (with_reducible refine bt ?_ (by with_reducible assumption)))))).mono ?_
  rintro e w1 ⟨va, rfl, ho1, hb1⟩
  have hB1 : Below w.heap.size w w1 := by repeat (first | (with_reducible exact Below.refl _ _) | (with_reducible assumption) | (with_reducible refine bdrew ?_) | (with_reducible refine baa ?_ _) | (with_reducible refine bs ?_ (by first | exact Nat.le_refl _ | omega | (simp; done) | (simp; omega)) _) | (with_reducible refine bt ?_ (by with_reducible assumption)))
  go_wp2_with fail
  refine (HB.out _ (Tab.below hT (by repeat (first | (with_reducible exact Below.refl _ _) | (with_reducible assumption) | (with_reducible refine bdrew ?_) | (with_reducible refine baa ?_ _) | (with_reducible refine bs ?_ (by first | exact Nat.le_refl _ | omega | (simp; done) | (simp; omega)) _) | (with_reducible refine bt ?_ (by with_reducible assumption))))) (Tab.below hL (by repeat (first | (with_reducible exact Below.refl _ _) | (with_reducible assumption) | (with_reducible refine bdrew ?_) | (with_reducible refine baa ?_ _) | (with_reducible refine bs ?_ (by first | exact Nat.le_refl _ | omega | (simp; done) | (simp; omega)) _) | (with_reducible refine bt ?_ (by with_reducible assumption))))) (Tab.below hF (by repeat (first | (with_reducible exact Below.refl _ _) | (with_reducible assumption) | (with_reducible refine bdrew ?_) | (with_reducible refine baa ?_ _) | (with_reducible refine bs ?_ (by first | exact Nat.le_refl _ | omega | (simp; done) | (simp; omega)) _) | (with_reducible refine bt ?_ (by with_reducible assumption)))))).mono ?_
  rintro e w2 ⟨vb, rfl, ho2, hb2⟩
  have hB12 : Below w1.heap.size w1 w2 := by repeat (first | (with_reducible exact Below.refl _ _) | (with_reducible assumption) | (with_reducible refine bdrew ?_) | (with_reducible refine baa ?_ _) | (with_reducible refine bs ?_ (by first | exact Nat.le_refl _ | omega | (simp; done) | (simp; omega)) _) | (with_reducible refine bt ?_ (by with_reducible assumption)))
  have hB2 : Below w.heap.size w w2 := bt hB1 hB12
  have hra := ho1.row.below hB12
  have hrb := ho2.row
  obtain ⟨pa, ca, rfl⟩ := hra.len
  obtain ⟨pb, cb, rfl⟩ := hrb.len
  rw [hla, hlb]
  have HNA := Lib.hid hla
  have HNB := Lib.hid hlb
  have n0 : ¬ (n : Int) = 0 := by omega
  have n1 : ((n : Int) == 0) = false := by simpa using (show ¬ n = 0 by omega)
  clear ho1 ho2 HA HB hla hlb
  generalize hk : 1 + y % 9998 = k at *
  go_wp2_with fail
  go_loopw [8] (fun i wr => ∃ j : Nat, j ≤ n ∧ i = .int .i64 (j : Int) ∧ Below w2.heap.size w2 wr) (fun i _ => n - (intOf i).toNat)
  case atStart => exact ⟨0, Nat.zero_le _, rfl, by repeat (first | (with_reducible exact Below.refl _ _) | (with_reducible assumption) | (with_reducible refine bdrew ?_) | (with_reducible refine baa ?_ _) | (with_reducible refine bs ?_ (by first | exact Nat.le_refl _ | omega | (simp; done) | (simp; omega)) _) | (with_reducible refine bt ?_ (by with_reducible assumption)))⟩
  case round =>
    obtain ⟨j, hj, rfl, hB⟩ := hrel
    obtain ⟨w9, rfl⟩ : ∃ x, x = wr := ⟨_, rfl⟩
    have hBw : Below w.heap.size w w9 := bt hB2 hB
    by_cases hlt : j < n
    · obtain ⟨xa, hxa⟩ : ∃ x, La[j]? = some x := ⟨_, List.getElem?_eq_getElem (by rw [HNA.out]; exact hlt)⟩
      obtain ⟨xb, hxb⟩ : ∃ x, Lb[j]? = some x := ⟨_, List.getElem?_eq_getElem (by rw [HNB.out]; exact hlt)⟩
      obtain ⟨hdd, hpp⟩ := HL.out j xa xb hxa hxb
      have hpd := HD.out xa.2.2
      obtain ⟨a1, a2, D⟩ := xa
      obtain ⟨b1, b2, D2⟩ := xb
      dsimp only at hdd hpp hpd
      subst hdd
      have HPd := Lib.hid (HP.out D)
      obtain ⟨ba, oa, cca, hp1, hca⟩ := (hra.below hB).at_some (by rw [HNA.out]; omega)
      obtain ⟨bb, ob, ccb, hp2, hcb⟩ := (hrb.below hB).at_some (by rw [HNB.out]; omega)
      rw [HNA.out] at hp1
      rw [HNB.out] at hp2
      simp only [Value.slice.injEq] at hp1 hp2
      obtain ⟨rfl, _, rfl⟩ := hp1
      obtain ⟨rfl, _, rfl⟩ := hp2
      obtain ⟨x1, x2, x3⟩ := Rd.cells_at hca j (a1, a2, D) hxa
      obtain ⟨z1, z2, z3⟩ := Rd.cells_at hcb j (b1, b2, D) hxb
      have lx := World.block_lt_of_cell? _ _ x1
      have lz := World.block_lt_of_cell? _ _ z1
      dsimp only at lx lz x1 x2 x3 z1 z2 z3
      have j0 : (0 : Int) ≤ (j : Int) := by omega
      have j1 : (j : Int) < (n : Int) := by omega
      clear hca hcb hxa hxb
      generalize part D = q at *
      go_wp2_with fail
      refine (HPd.out _).mono ?_
      rintro e w3 ⟨rfl, hb3⟩
      obtain ⟨hc3, hf3⟩ := bcell hb3
      have u1 := (hc3 _ _ lx).trans x1
      have u2 := (hc3 _ _ lx).trans x2
      have u3 := (hc3 _ _ lx).trans x3
      have v1 := (hc3 _ _ lz).trans z1
      have v2 := (hc3 _ _ lz).trans z2
      have v3 := (hc3 _ _ lz).trans z3
      have hz3 := hb3.size
      have lu : ba < w3.heap.size := by omega
      have lv : bb < w3.heap.size := by omega
      clear x1 x2 x3 z1 z2 z3 hc3 hf3
      rcases (show q = 0 ∨ q = 1 ∨ q = 2 ∨ q = 3 ∨ q = 4 by omega) with rfl | rfl | rfl | rfl | rfl
      · obtain ⟨rfl, rfl⟩ : a1 = b1 ∧ a2 = b2 := by have := hpp (by omega); simpa using this
        clear hpp hpd
        go_wp2_with fail
        refine wp_region_class (by kernel_rfl) (by kernel_rfl) (fun hall => ?_)
        repeat (first | go_big_quiet_skip | (go_big_quiet_want; first | (refine quiet_load1 _ _ _ rfl rfl ?_ ?_ ?_; (focus (intro _; simp; done)); (focus (first | assumption | omega | (simp; done) | (simp; omega))); apply Exists.intro; refine ⟨?_, ?_⟩; assumption; go_simp; go_big_quiet_on) | (refine quiet_load2 _ _ _ _ rfl rfl ?_ ?_ ?_ ?_; (focus (intro _; simp; done)); (focus (intro _; simp; done)); (focus (first | assumption | omega | (simp; done) | (simp; omega))); apply Exists.intro; apply Exists.intro; refine ⟨?_, ?_, ?_⟩; assumption; assumption; go_simp; go_big_quiet_on) | (refine quiet_load3 _ _ _ _ rfl rfl ?_ ?_ ?_ ?_; (focus (intro _; simp; done)); (focus (intro _; simp; done)); (focus (first | assumption | omega | (simp; done) | (simp; omega))); apply Exists.intro; apply Exists.intro; apply Exists.intro; refine ⟨?_, ?_, ?_, ?_⟩; assumption; assumption; assumption; go_simp; go_big_quiet_on) | (refine quiet_load4 _ _ _ _ rfl rfl ?_ ?_ ?_ ?_; (focus (intro _; simp; done)); (focus (intro _; simp; done)); (focus (first | assumption | omega | (simp; done) | (simp; omega))); apply Exists.intro; apply Exists.intro; apply Exists.intro; apply Exists.intro; refine ⟨?_, ?_, ?_, ?_, ?_⟩; assumption; assumption; assumption; assumption; go_simp; go_big_quiet_on) | (go_big_quiet_op; first | go_big_quiet_on | (apply Exists.intro; refine ⟨fun x hx => ?_, ?_⟩; (first | fail); go_big_quiet_on))))
        refine wpQuiet_nil ?_
        clear hall
        intro x4 hx4
        go_wp2_with fail
        go_roundw
        case rel => exact ⟨j + 1, by omega, by go_num, by repeat (first | (with_reducible exact Below.refl _ _) | (with_reducible assumption) | (with_reducible refine bdrew ?_) | (with_reducible refine baa ?_ _) | (with_reducible refine bs ?_ (by first | exact Nat.le_refl _ | omega | (simp; done) | (simp; omega)) _) | (with_reducible refine bt ?_ (by with_reducible assumption)))⟩
        case measure => simp [intOf]; omega
      · clear hpp hpd
        go_wp2_with fail
        refine wp_region_class (by kernel_rfl) (by kernel_rfl) (fun hall => ?_)
        repeat (first | go_big_quiet_skip | (go_big_quiet_want; first | (refine quiet_load1 _ _ _ rfl rfl ?_ ?_ ?_; (focus (intro _; simp; done)); (focus (first | assumption | omega | (simp; done) | (simp; omega))); apply Exists.intro; refine ⟨?_, ?_⟩; assumption; go_simp; go_big_quiet_on) | (refine quiet_load2 _ _ _ _ rfl rfl ?_ ?_ ?_ ?_; (focus (intro _; simp; done)); (focus (intro _; simp; done)); (focus (first | assumption | omega | (simp; done) | (simp; omega))); apply Exists.intro; apply Exists.intro; refine ⟨?_, ?_, ?_⟩; assumption; assumption; go_simp; go_big_quiet_on) | (refine quiet_load3 _ _ _ _ rfl rfl ?_ ?_ ?_ ?_; (focus (intro _; simp; done)); (focus (intro _; simp; done)); (focus (first | assumption | omega | (simp; done) | (simp; omega))); apply Exists.intro; apply Exists.intro; apply Exists.intro; refine ⟨?_, ?_, ?_, ?_⟩; assumption; assumption; assumption; go_simp; go_big_quiet_on) | (refine quiet_load4 _ _ _ _ rfl rfl ?_ ?_ ?_ ?_; (focus (intro _; simp; done)); (focus (intro _; simp; done)); (focus (first | assumption | omega | (simp; done) | (simp; omega))); apply Exists.intro; apply Exists.intro; apply Exists.intro; apply Exists.intro; refine ⟨?_, ?_, ?_, ?_, ?_⟩; assumption; assumption; assumption; assumption; go_simp; go_big_quiet_on) | (go_big_quiet_op; first | go_big_quiet_on | (apply Exists.intro; refine ⟨fun x hx => ?_, ?_⟩; (first | fail); go_big_quiet_on))))
        refine wpQuiet_nil ?_
        clear hall
        intro x4 hx4
        go_wp2_with fail
        go_roundw
        case rel => exact ⟨j + 1, by omega, by go_num, by repeat (first | (with_reducible exact Below.refl _ _) | (with_reducible assumption) | (with_reducible refine bdrew ?_) | (with_reducible refine baa ?_ _) | (with_reducible refine bs ?_ (by first | exact Nat.le_refl _ | omega | (simp; done) | (simp; omega)) _) | (with_reducible refine bt ?_ (by with_reducible assumption)))⟩
        case measure => simp [intOf]; omega
      · clear hpp hpd
        go_wp2_with fail
        refine wp_region_class (by kernel_rfl) (by kernel_rfl) (fun hall => ?_)
        repeat (first | go_big_quiet_skip | (go_big_quiet_want; first | (refine quiet_load1 _ _ _ rfl rfl ?_ ?_ ?_; (focus (intro _; simp; done)); (focus (first | assumption | omega | (simp; done) | (simp; omega))); apply Exists.intro; refine ⟨?_, ?_⟩; assumption; go_simp; go_big_quiet_on) | (refine quiet_load2 _ _ _ _ rfl rfl ?_ ?_ ?_ ?_; (focus (intro _; simp; done)); (focus (intro _; simp; done)); (focus (first | assumption | omega | (simp; done) | (simp; omega))); apply Exists.intro; apply Exists.intro; refine ⟨?_, ?_, ?_⟩; assumption; assumption; go_simp; go_big_quiet_on) | (refine quiet_load3 _ _ _ _ rfl rfl ?_ ?_ ?_ ?_; (focus (intro _; simp; done)); (focus (intro _; simp; done)); (focus (first | assumption | omega | (simp; done) | (simp; omega))); apply Exists.intro; apply Exists.intro; apply Exists.intro; refine ⟨?_, ?_, ?_, ?_⟩; assumption; assumption; assumption; go_simp; go_big_quiet_on) | (refine quiet_load4 _ _ _ _ rfl rfl ?_ ?_ ?_ ?_; (focus (intro _; simp; done)); (focus (intro _; simp; done)); (focus (first | assumption | omega | (simp; done) | (simp; omega))); apply Exists.intro; apply Exists.intro; apply Exists.intro; apply Exists.intro; refine ⟨?_, ?_, ?_, ?_, ?_⟩; assumption; assumption; assumption; assumption; go_simp; go_big_quiet_on) | (go_big_quiet_op; first | go_big_quiet_on | (apply Exists.intro; refine ⟨fun x hx => ?_, ?_⟩; (first | fail); go_big_quiet_on))))
        refine wpQuiet_nil ?_
        clear hall
        intro x4 hx4
        go_wp2_with fail
        go_roundw
        case rel => exact ⟨j + 1, by omega, by go_num, by repeat (first | (with_reducible exact Below.refl _ _) | (with_reducible assumption) | (with_reducible refine bdrew ?_) | (with_reducible refine baa ?_ _) | (with_reducible refine bs ?_ (by first | exact Nat.le_refl _ | omega | (simp; done) | (simp; omega)) _) | (with_reducible refine bt ?_ (by with_reducible assumption)))⟩
        case measure => simp [intOf]; omega
      · obtain ⟨rfl, rfl⟩ : a1 = b1 ∧ a2 = b2 := by have := hpp (by omega); simpa using this
        clear hpp hpd
        go_wp2_with fail
        refine wp_region_class (by kernel_rfl) (by kernel_rfl) (fun hall => ?_)
        repeat (first | go_big_quiet_skip | (go_big_quiet_want; first | (refine quiet_load1 _ _ _ rfl rfl ?_ ?_ ?_; (focus (intro _; simp; done)); (focus (first | assumption | omega | (simp; done) | (simp; omega))); apply Exists.intro; refine ⟨?_, ?_⟩; assumption; go_simp; go_big_quiet_on) | (refine quiet_load2 _ _ _ _ rfl rfl ?_ ?_ ?_ ?_; (focus (intro _; simp; done)); (focus (intro _; simp; done)); (focus (first | assumption | omega | (simp; done) | (simp; omega))); apply Exists.intro; apply Exists.intro; refine ⟨?_, ?_, ?_⟩; assumption; assumption; go_simp; go_big_quiet_on) | (refine quiet_load3 _ _ _ _ rfl rfl ?_ ?_ ?_ ?_; (focus (intro _; simp; done)); (focus (intro _; simp; done)); (focus (first | assumption | omega | (simp; done) | (simp; omega))); apply Exists.intro; apply Exists.intro; apply Exists.intro; refine ⟨?_, ?_, ?_, ?_⟩; assumption; assumption; assumption; go_simp; go_big_quiet_on) | (refine quiet_load4 _ _ _ _ rfl rfl ?_ ?_ ?_ ?_; (focus (intro _; simp; done)); (focus (intro _; simp; done)); (focus (first | assumption | omega | (simp; done) | (simp; omega))); apply Exists.intro; apply Exists.intro; apply Exists.intro; apply Exists.intro; refine ⟨?_, ?_, ?_, ?_, ?_⟩; assumption; assumption; assumption; assumption; go_simp; go_big_quiet_on) | (go_big_quiet_op; first | go_big_quiet_on | (apply Exists.intro; refine ⟨fun x hx => ?_, ?_⟩; (first | fail); go_big_quiet_on))))
        refine wpQuiet_nil ?_
        clear hall
        intro x4 hx4
        go_wp2_with fail
        go_roundw
        case rel => exact ⟨j + 1, by omega, by go_num, by repeat (first | (with_reducible exact Below.refl _ _) | (with_reducible assumption) | (with_reducible refine bdrew ?_) | (with_reducible refine baa ?_ _) | (with_reducible refine bs ?_ (by first | exact Nat.le_refl _ | omega | (simp; done) | (simp; omega)) _) | (with_reducible refine bt ?_ (by with_reducible assumption)))⟩
        case measure => simp [intOf]; omega
      · clear hpp hpd
        go_wp2_with fail
        refine wp_region_class (by kernel_rfl) (by kernel_rfl) (fun hall => ?_)
        repeat (first | go_big_quiet_skip | (go_big_quiet_want; first | (refine quiet_load1 _ _ _ rfl rfl ?_ ?_ ?_; (focus (intro _; simp; done)); (focus (first | assumption | omega | (simp; done) | (simp; omega))); apply Exists.intro; refine ⟨?_, ?_⟩; assumption; go_simp; go_big_quiet_on) | (refine quiet_load2 _ _ _ _ rfl rfl ?_ ?_ ?_ ?_; (focus (intro _; simp; done)); (focus (intro _; simp; done)); (focus (first | assumption | omega | (simp; done) | (simp; omega))); apply Exists.intro; apply Exists.intro; refine ⟨?_, ?_, ?_⟩; assumption; assumption; go_simp; go_big_quiet_on) | (refine quiet_load3 _ _ _ _ rfl rfl ?_ ?_ ?_ ?_; (focus (intro _; simp; done)); (focus (intro _; simp; done)); (focus (first | assumption | omega | (simp; done) | (simp; omega))); apply Exists.intro; apply Exists.intro; apply Exists.intro; refine ⟨?_, ?_, ?_, ?_⟩; assumption; assumption; assumption; go_simp; go_big_quiet_on) | (refine quiet_load4 _ _ _ _ rfl rfl ?_ ?_ ?_ ?_; (focus (intro _; simp; done)); (focus (intro _; simp; done)); (focus (first | assumption | omega | (simp; done) | (simp; omega))); apply Exists.intro; apply Exists.intro; apply Exists.intro; apply Exists.intro; refine ⟨?_, ?_, ?_, ?_, ?_⟩; assumption; assumption; assumption; assumption; go_simp; go_big_quiet_on) | (go_big_quiet_op; first | go_big_quiet_on | (apply Exists.intro; refine ⟨fun x hx => ?_, ?_⟩; (first | fail); go_big_quiet_on))))
        refine wpQuiet_nil ?_
        clear hall
        intro x4 hx4
        go_wp2_with fail
        go_roundw
        case rel => exact ⟨j + 1, by omega, by go_num, by repeat (first | (with_reducible exact Below.refl _ _) | (with_reducible assumption) | (with_reducible refine bdrew ?_) | (with_reducible refine baa ?_ _) | (with_reducible refine bs ?_ (by first | exact Nat.le_refl _ | omega | (simp; done) | (simp; omega)) _) | (with_reducible refine bt ?_ (by with_reducible assumption)))⟩
        case measure => simp [intOf]; omega
    · obtain rfl : j = n := by omega
      clear hlt
      go_wp2_with fail
      refine (HW.out _ (by repeat (first | (with_reducible exact Below.refl _ _) | (with_reducible assumption) | (with_reducible refine bdrew ?_) | (with_reducible refine baa ?_ _) | (with_reducible refine bs ?_ (by first | exact Nat.le_refl _ | omega | (simp; done) | (simp; omega)) _) | (with_reducible refine bt ?_ (by with_reducible assumption))))).mono ?_
      rintro e w5 ⟨rfl, hb5⟩
      go_wp2_with fail
      go_ret
      refine ⟨rfl, ?_⟩
      repeat (first | (with_reducible exact Below.refl _ _) | (with_reducible assumption) | (with_reducible refine bdrew ?_) | (with_reducible refine baa ?_ _) | (with_reducible refine bs ?_ (by first | exact Nat.le_refl _ | omega | (simp; done) | (simp; omega)) _) | (with_reducible refine bt ?_ (by with_reducible assumption)))
theorem TorahPlaces_walk (y : Int) (hy : 0 ≤ y ∧ y ≤ 65535) (w : World) (hT : Tab w 4 kevCells) (hL : Tab w 3 lenCells) (hF : Tab w 2 Fe.cells) (hP : Tab w 1 Rd.prCells) (hN : Tab w 0 Rd.nmCells) :
    Calls Tryo.prog 8 #[.int .u16 y] w fun e w' => e = .returned (.bool true) ∧ Below w.heap.size w w' := by
  have k1 := Int.emod_nonneg y (show (9998 : Int) ≠ 0 by decide)
  have k2 := Int.emod_lt_of_pos y (show (0 : Int) < 9998 by decide)
  obtain ⟨i, h⟩ := Yr.is_some (1 + y % 9998) (by omega) (by omega)
  obtain ⟨i2, h2⟩ := Yr.is_some (1 + y % 9998 + 1) (by omega) (by omega)
  obtain ⟨l1, l2, l3⟩ := Rd.like_at h.2.2.1
  refine TorahPlaces_go y (Rd.cyc0 i false).length ((Rd.cyc0 i false).map (Rd.sh (Cal.first (1 + y % 9998) - kevB i))) ((Rd.cyc0 i true).map (Rd.sh (Cal.first (1 + y % 9998) - kevB i))) (Rd.partY (1 + y % 9998)) w hy hT hL hF (List.length_map ..) (by rw [List.length_map, l1]) l2 (Rd.len_at h.2.2.1 false) (Lib.hid fun j a b ha hb => ?_)
    (Lib.hid fun d => by have := Rd.part_in d (D10.dayV (1 + y % 9998) 7 false 15) (D10.dayV (1 + y % 9998) 9 false 5) (D10.dayV (1 + y % 9998) 11 false 9) (D10.dayV (1 + y % 9998 + 1) 1 false 1); unfold Rd.partY; omega)
    (Lib.hid fun w hT hL hF => rd_Cycle _ i i2 false w h h2 hT hL hF) (Lib.hid fun w hT hL hF => rd_Cycle _ i i2 true w h h2 hT hL hF) (Lib.hid fun d w => ref23_Part _ i i2 d w h h2) (Lib.hid fun W hW => awake24 W (Tab.below hT hW) (Tab.below hL hW) (Tab.below hF hW) (Tab.below hP hW) (Tab.below hN hW))
  rw [List.getElem?_map] at ha hb
  rcases ea : (Rd.cyc0 i false)[j]? with _ | a0
  · rw [ea] at ha; cases ha
  rcases eb : (Rd.cyc0 i true)[j]? with _ | b0
  · rw [eb] at hb; cases hb
  rw [ea] at ha
  rw [eb] at hb
  simp only [Option.map_some, Option.some.injEq] at ha hb
  subst ha hb
  obtain ⟨m1, m2⟩ := l3 j a0 b0 ea eb
  have e : Rd.partY (1 + y % 9998) (Rd.sh (Cal.first (1 + y % 9998) - kevB i) a0).2.2 = Rd.part0 i a0.2.2 := Rd.partY_sh h h2 _
  rw [e]
  refine ⟨by simp only [Rd.sh, m1], fun hp => by rw [m2 hp]⟩
end Go.Proofs.YtoofgalkchnpnaaGreatDoor
