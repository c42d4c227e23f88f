/- Layer 23: SabbathWeeks: Sabbaths are a week apart, over cycles' ends too; so many free ones as may be. -/
import Derived.Test.YtoofgalkchnpnaaGreatDoorZW23
import Derived.Test.YtoofgalkchnpnaaGreatDoorZSW
namespace Go.Proofs.YtoofgalkchnpnaaGreatDoor
open Go.ChangeShapes Go.WideShapes Go.ChangeAt Go.RowKit Go.Lib Go.Sort Go.Shelf
set_option linter.unusedVariables false
set_option maxRecDepth 100000
namespace Sb
theorem freeOf_split (S l : List Int) (j : Nat) : freeOf S l = freeOf S (l.take j) ++ freeOf S (l.drop j) := by
  unfold freeOf
  rw [← List.filter_append, List.take_append_drop]
theorem freeOf_hit {S l : List Int} {j : Nat} {D : Int} (hx : l[j]? = some D) (hD : D ∉ S) : (freeOf S (l.take j)).length < (freeOf S l).length ∧ (freeOf S l)[(freeOf S (l.take j)).length]? = some D := by
  have hlt : j < l.length := (List.getElem?_eq_some_iff.1 hx).1
  have e2 : l[j] = D := (List.getElem?_eq_some_iff.1 hx).2
  rw [freeOf_split S l j, List.drop_eq_getElem_cons hlt]
  have e3 : freeOf S (l[j] :: l.drop (j + 1)) = D :: freeOf S (l.drop (j + 1)) := by
    rw [e2]; simp [freeOf, hD]
  rw [e3]
  simp
theorem freeOf_not {S l : List Int} {q : Nat} {E : Int} (h : (freeOf S l)[q]? = some E) : E ∉ S := by
  have := List.mem_of_getElem? h
  unfold freeOf at this
  simpa using (List.mem_filter.1 this).2
end Sb
set_option maxHeartbeats 16000000 in
theorem SabbathWeeks_go (y u A b k7 : Int) (lp : Bool) (n m nf : Nat) (l l2 fl S : List Int) (w : World) (hy : 0 ≤ y ∧ y ≤ 65535) (hu : 0 ≤ u ∧ u ≤ 255) (hT : Tab w 4 kevCells) (hL : Tab w 3 lenCells) (hF : Tab w 2 Fe.cells)
    (hl : l.length = n) (hn : 1 ≤ n) (hn2 : n ≤ 60) (hm : l2.length = m) (hm2 : 1 ≤ m) (hf : fl.length = nf) (ha1 : -2000000 ≤ A) (ha2 : A ≤ 3000000)
    (HG : Hid (∀ j : Nat, j < n → l[j]? = some (A + 7 * (j : Int)))) (H2 : Hid (l2[0]? = some (A + 7 * (n : Int)))) (HFL : Hid (fl = Sb.freeOf S l)) (hlo : (if lp then 49 else 46) ≤ (nf : Int)) (hhi : (nf : Int) ≤ if lp then 55 else 51)
    (HA : Hid (∀ w : World, Tab w 4 kevCells → Tab w 3 lenCells → Tab w 2 Fe.cells → Calls Tryo.prog 10 #[.int .i64 (1 + y % 9997), .int .i64 (u % 2)] w fun e w' => ∃ v, e = .returned (.tuple #[v, .int .i64 0]) ∧ Il.Own w' w.heap.size v l ∧ Below w.heap.size w w'))
    (HB : Hid (∀ w : World, Tab w 4 kevCells → Tab w 3 lenCells → Tab w 2 Fe.cells → Calls Tryo.prog 10 #[.int .i64 ((1 + y % 9997) + 1), .int .i64 (u % 2)] w fun e w' => ∃ v, e = .returned (.tuple #[v, .int .i64 0]) ∧ Il.Own w' w.heap.size v l2 ∧ Below w.heap.size w w'))
    (HFr : Hid (∀ w : World, Tab w 4 kevCells → Tab w 3 lenCells → Tab w 2 Fe.cells → Calls Tryo.prog 11 #[.int .i64 (1 + y % 9997), .int .i64 (u % 2)] w fun e w' => ∃ v, e = .returned (.tuple #[v, .int .i64 0]) ∧ Il.Own w' w.heap.size v fl ∧ Below w.heap.size w w'))
    (HC : Hid (∀ (j : Nat) (w : World), j < n → Tab w 4 kevCells → Tab w 3 lenCells → Tab w 2 Fe.cells → Calls Tryo.prog 12 #[.int .i64 (A + 7 * (j : Int)), .int .i64 (u % 2)] w fun e w' => e = .returned (.tuple #[.int .i64 (1 + y % 9997), .int .i64 0]) ∧ Below w.heap.size w w'))
    (HWd : Hid (∀ (j : Nat) (w : World), j < n → Calls Tryo.prog 13 #[.int .i64 (A + 7 * (j : Int))] w fun e w' => e = .returned (.int .i64 6) ∧ w = w'))
    (HK : Hid (∀ w : World, Calls Tryo.prog 14 #[.int .i64 (1 + y % 9997)] w fun e w' => e = .returned (.tuple #[.agg #[.int .i64 b, .int .i64 k7, .bool lp], .int .i64 0]) ∧ Below w.heap.size w w'))
    (HW : Hid (∀ w : World, Tab w 4 kevCells → Tab w 3 lenCells → Tab w 2 Fe.cells → Calls Tryo.prog 15 #[] w fun e w' => e = .returned (.bool true) ∧ Below w.heap.size w w')) :
    Calls Tryo.prog 3 #[.int .u16 y, .int .u8 u] w fun e w' => e = .returned (.bool true) ∧ Below w.heap.size w w' := by
  obtain ⟨y1, y2⟩ := hy
  obtain ⟨u1, u2⟩ := hu
  have k0 : y.tmod 9997 = y % 9997 := Int.tmod_eq_emod_of_nonneg y1
  have k1 := Int.emod_nonneg y (show (9997 : Int) ≠ 0 by decide)
  have k2 := Int.emod_lt_of_pos y (show (0 : Int) < 9997 by decide)
  have q0 : u.tmod 2 = u % 2 := Int.tmod_eq_emod_of_nonneg u1
  have q1 := Int.emod_nonneg u (show (2 : Int) ≠ 0 by decide)
  have q2 := Int.emod_lt_of_pos u (show (0 : Int) < 2 by decide)
  go_enter Tryo.func3, Tryz.ntmps3
  go_wp2_with fail
  refine (HA.out _ (Tab.below hT (by repeat (first | (with_reducible exact Below.refl _ _) | (with_reducible assumption) | (with_reducible refine bdrew ?_) | (with_reducible refine baa ?_ _) | (with_reducible refine bs ?_ (by first | exact Nat.le_refl _ | omega | (simp; done) | (simp; omega)) _) | (with_reducible refine bt ?_ (by with_reducible assumption))))) (Tab.below hL (by repeat (first | (with_reducible exact Below.refl _ _) | (with_reducible assumption) | (with_reducible refine bdrew ?_) | (with_reducible refine baa ?_ _) | (with_reducible refine bs ?_ (by first | exact Nat.le_refl _ | omega | (simp; done) | (simp; omega)) _) | (with_reducible refine bt ?_ (by with_reducible assumption))))) (Tab.below hF (by repeat (first | (with_reducible exact Below.refl _ _) | (with_reducible assumption) | (with_reducible refine bdrew ?_) | (with_reducible refine baa ?_ _) | (with_reducible refine bs ?_ (by first | exact Nat.le_refl _ | omega | (simp; done) | (simp; omega)) _) | (with_reducible refine bt ?_ (by with_reducible assumption)))))).mono ?_
  rintro e w1 ⟨v1, rfl, ho1, hb1⟩
  have hr1 := ho1.row
  obtain ⟨b1, o1, c1, rfl, hcs1⟩ := hr1.at_some (by omega)
  rw [hl]
  go_wp2_with fail
  refine (HB.out _ (Tab.below hT (by repeat (first | (with_reducible exact Below.refl _ _) | (with_reducible assumption) | (with_reducible refine bdrew ?_) | (with_reducible refine baa ?_ _) | (with_reducible refine bs ?_ (by first | exact Nat.le_refl _ | omega | (simp; done) | (simp; omega)) _) | (with_reducible refine bt ?_ (by with_reducible assumption))))) (Tab.below hL (by repeat (first | (with_reducible exact Below.refl _ _) | (with_reducible assumption) | (with_reducible refine bdrew ?_) | (with_reducible refine baa ?_ _) | (with_reducible refine bs ?_ (by first | exact Nat.le_refl _ | omega | (simp; done) | (simp; omega)) _) | (with_reducible refine bt ?_ (by with_reducible assumption))))) (Tab.below hF (by repeat (first | (with_reducible exact Below.refl _ _) | (with_reducible assumption) | (with_reducible refine bdrew ?_) | (with_reducible refine baa ?_ _) | (with_reducible refine bs ?_ (by first | exact Nat.le_refl _ | omega | (simp; done) | (simp; omega)) _) | (with_reducible refine bt ?_ (by with_reducible assumption)))))).mono ?_
  rintro e w2 ⟨v2, rfl, ho2, hb2⟩
  have hr2 := ho2.row
  obtain ⟨b2, o2, c2, rfl, hcs2⟩ := hr2.at_some (by omega)
  rw [hm]
  go_wp2_with fail
  refine (HFr.out _ (Tab.below hT (by repeat (first | (with_reducible exact Below.refl _ _) | (with_reducible assumption) | (with_reducible refine bdrew ?_) | (with_reducible refine baa ?_ _) | (with_reducible refine bs ?_ (by first | exact Nat.le_refl _ | omega | (simp; done) | (simp; omega)) _) | (with_reducible refine bt ?_ (by with_reducible assumption))))) (Tab.below hL (by repeat (first | (with_reducible exact Below.refl _ _) | (with_reducible assumption) | (with_reducible refine bdrew ?_) | (with_reducible refine baa ?_ _) | (with_reducible refine bs ?_ (by first | exact Nat.le_refl _ | omega | (simp; done) | (simp; omega)) _) | (with_reducible refine bt ?_ (by with_reducible assumption))))) (Tab.below hF (by repeat (first | (with_reducible exact Below.refl _ _) | (with_reducible assumption) | (with_reducible refine bdrew ?_) | (with_reducible refine baa ?_ _) | (with_reducible refine bs ?_ (by first | exact Nat.le_refl _ | omega | (simp; done) | (simp; omega)) _) | (with_reducible refine bt ?_ (by with_reducible assumption)))))).mono ?_
  rintro e w3 ⟨v3, rfl, ho3, hb3⟩
  have hr3 := ho3.row
  obtain ⟨p3, c3, rfl⟩ := hr3.len
  rw [hf]
  obtain ⟨t, ht⟩ : ∃ t : Nat, n = t + 1 := ⟨n - 1, by omega⟩
  have b13 : Below w1.heap.size w1 w3 := bt hb2 hb3
  have g1 := hcs1 t _ (HG.out t (by omega))
  have g2 := hcs2 0 _ H2.out
  have lb1 := World.block_lt_of_cell? _ _ g1
  have lb2 := World.block_lt_of_cell? _ _ g2
  dsimp only at lb1 lb2
  obtain ⟨Z, hZ⟩ : ∃ Z, Z = A + 7 * (t : Int) := ⟨_, rfl⟩
  rw [← hZ] at g1
  rw [show A + 7 * (n : Int) = Z + 7 by rw [hZ, ht]; push_cast; omega] at g2
  have z1 : -2000000 ≤ Z := by omega
  have z2 : Z ≤ 3000500 := by omega
  have c1x : w3.cell? ⟨b1, o1 + t, none⟩ = some (.int .i64 Z) := (b13.cell lb1).trans g1
  have c2x : w3.cell? ⟨b2, o2, none⟩ = some (.int .i64 (Z + 7)) := (hb3.cell lb2).trans g2
  have lc1 : b1 < w3.heap.size := World.block_lt_of_cell? _ _ c1x
  have lc2 : b2 < w3.heap.size := World.block_lt_of_cell? _ _ c2x
  have t1 : (n : Int) - 1 = (t : Int) := by omega
  have t2 : (0 : Int) ≤ (t : Int) := by omega
  have t3 : (t : Int) < (n : Int) := by omega
  have n1 : (n == 0) = false := by simp; omega
  have n2 : ((n : Int) == 0) = false := by simp; omega
  have m1 : ((m : Int) == 0) = false := by simp; omega
  have m2 : (0 : Int) < (m : Int) := by omega
  have hB3 : Below w.heap.size w w3 := by repeat (first | (with_reducible exact Below.refl _ _) | (with_reducible assumption) | (with_reducible refine bdrew ?_) | (with_reducible refine baa ?_ _) | (with_reducible refine bs ?_ (by first | exact Nat.le_refl _ | omega | (simp; done) | (simp; omega)) _) | (with_reducible refine bt ?_ (by with_reducible assumption)))
  have hr13 := hr1.below b13
  have HN := Lib.hid hl
  have HNF := Lib.hid hf
  clear g1 g2 hcs1 hcs2 ho1 ho2 ho3 hr1 hr2 ht hZ hl hf lb1 lb2
  go_wp2_with fail
  refine wp_region_class (by kernel_rfl) (by kernel_rfl) (fun hall => ?_)
  repeat (first | go_big_quiet_skip | (go_big_quiet_want; first | (refine quiet_load1 _ _ _ rfl rfl ?_ ?_ ?_; (focus (intro _; simp; done)); (focus (first | assumption | omega | (simp; done) | (simp; omega))); apply Exists.intro; refine ⟨?_, ?_⟩; assumption; go_simp; go_big_quiet_on) | (refine quiet_load2 _ _ _ _ rfl rfl ?_ ?_ ?_ ?_; (focus (intro _; simp; done)); (focus (intro _; simp; done)); (focus (first | assumption | omega | (simp; done) | (simp; omega))); apply Exists.intro; apply Exists.intro; refine ⟨?_, ?_, ?_⟩; assumption; assumption; go_simp; go_big_quiet_on) | (refine quiet_load3 _ _ _ _ rfl rfl ?_ ?_ ?_ ?_; (focus (intro _; simp; done)); (focus (intro _; simp; done)); (focus (first | assumption | omega | (simp; done) | (simp; omega))); apply Exists.intro; apply Exists.intro; apply Exists.intro; refine ⟨?_, ?_, ?_, ?_⟩; assumption; assumption; assumption; go_simp; go_big_quiet_on) | (refine quiet_load4 _ _ _ _ rfl rfl ?_ ?_ ?_ ?_; (focus (intro _; simp; done)); (focus (intro _; simp; done)); (focus (first | assumption | omega | (simp; done) | (simp; omega))); apply Exists.intro; apply Exists.intro; apply Exists.intro; apply Exists.intro; refine ⟨?_, ?_, ?_, ?_, ?_⟩; assumption; assumption; assumption; assumption; go_simp; go_big_quiet_on) | (go_big_quiet_op; first | go_big_quiet_on | (apply Exists.intro; refine ⟨fun x hx => ?_, ?_⟩; (first | fail); go_big_quiet_on))))
  refine wpQuiet_nil ?_
  clear hall
  intro x5 hx5

  go_wp2_with fail
  go_loopw [13, 14] (fun c i wr => ∃ j : Nat, j ≤ n ∧ i = .int .i64 (j : Int) ∧ c = .int .i64 ((Sb.freeOf S (l.take j)).length : Int) ∧ Below w3.heap.size w3 wr) (fun _ i _ => n - (intOf i).toNat)
  case atStart => exact ⟨0, Nat.zero_le _, rfl, by simp [Sb.freeOf], hx5⟩
  case round =>
    obtain ⟨j, hj, rfl, rfl, hB⟩ := hrel
    obtain ⟨w4, rfl⟩ : ∃ x, x = wr := ⟨_, rfl⟩
    have hBw : Below w.heap.size w w4 := bt hB3 hB
    clear hx5 c1x c2x lc1 lc2
    by_cases hlt : j < n
    · have hx := HG.out j hlt
      have HX := Lib.hid (Sb.freeOf_next S l j _ hx)
      have HCj := Lib.hid (fun w => HC.out j w hlt)
      have HWj := Lib.hid (fun w => HWd.out j w hlt)
      have hrl := hr13.below hB
      have hrf := hr3.below hB
      obtain ⟨b, off, cc, hp1, hc⟩ := hrl.at_some (by rw [HN.out]; omega)
      rw [HN.out] at hp1
      simp only [Value.slice.injEq, Option.some.injEq, Addr.mk.injEq] at hp1
      obtain ⟨⟨rfl, rfl, -⟩, -, rfl⟩ := hp1
      have j0 : (0 : Int) ≤ (j : Int) := by omega
      have j1 : (j : Int) < (n : Int) := by omega
      have j2 : (j : Int) ≤ 60 := by omega
      have cxj := hc j _ hx
      have lxj := World.block_lt_of_cell? _ _ cxj
      dsimp only at lxj
      obtain ⟨nn, hnn⟩ : ∃ x, x = (Sb.freeOf S (l.take j)).length := ⟨_, rfl⟩
      have HNN := Lib.hid hnn
      have hnn60 : nn ≤ 60 := by
        have h1 : (Sb.freeOf S (l.take j)).length ≤ (l.take j).length := List.length_filter_le _ _
        rw [List.length_take] at h1
        omega
      rw [← hnn]
      have e0 : (0 : Int) ≤ (nn : Int) := by omega
      have HH : Hid (A + 7 * (j : Int) ∉ S → nn < nf ∧ fl[nn]? = some (A + 7 * (j : Int))) := Lib.hid (fun hD => by rw [← HNF.out, HFL.out, hnn]; exact Sb.freeOf_hit hx hD)
      have HM : Hid (∀ E, fl[nn]? = some E → E ∉ S) := Lib.hid (fun E hE => by rw [HFL.out] at hE; exact Sb.freeOf_not hE)
      by_cases hj0 : j = 0
      · subst hj0
        have HD := Lib.hid (show A + 7 * ((0 : Nat) : Int) = A by simp)
        rw [HD.out] at HCj HWj HH HX cxj
        simp only [Nat.add_zero] at cxj
        clear hc hx hrl hnn
        by_cases cS : A ∈ S
        · by_cases cN : nn < nf
          · obtain ⟨G, hG⟩ : ∃ G, fl[nn]? = some G := ⟨_, List.getElem?_eq_getElem (by rw [HNF.out]; exact cN)⟩
            obtain ⟨fb, fo, fc, hp2, hcf⟩ := hrf.at_some (by rw [HNF.out]; omega)
            rw [HNF.out] at hp2
            simp only [Value.slice.injEq] at hp2
            obtain ⟨rfl, -, rfl⟩ := hp2
            have hne : G ≠ A := fun e => HM.out G hG (e ▸ cS)
            have hne2 : (G == A) = false := by simpa using hne
            have cf := hcf nn _ hG
            have lf := World.block_lt_of_cell? _ _ cf
            dsimp only at lf
            have cN2 : (nn : Int) < (nf : Int) := by omega
            clear hcf hG
            go_wp2_with fail
            refine (HCj.out _ (Tab.below hT (by repeat (first | (with_reducible exact Below.refl _ _) | (with_reducible assumption) | (with_reducible refine bdrew ?_) | (with_reducible refine baa ?_ _) | (with_reducible refine bs ?_ (by first | exact Nat.le_refl _ | omega | (simp; done) | (simp; omega)) _) | (with_reducible refine bt ?_ (by with_reducible assumption))))) (Tab.below hL (by repeat (first | (with_reducible exact Below.refl _ _) | (with_reducible assumption) | (with_reducible refine bdrew ?_) | (with_reducible refine baa ?_ _) | (with_reducible refine bs ?_ (by first | exact Nat.le_refl _ | omega | (simp; done) | (simp; omega)) _) | (with_reducible refine bt ?_ (by with_reducible assumption))))) (Tab.below hF (by repeat (first | (with_reducible exact Below.refl _ _) | (with_reducible assumption) | (with_reducible refine bdrew ?_) | (with_reducible refine baa ?_ _) | (with_reducible refine bs ?_ (by first | exact Nat.le_refl _ | omega | (simp; done) | (simp; omega)) _) | (with_reducible refine bt ?_ (by with_reducible assumption)))))).mono ?_
            rintro e w5 ⟨rfl, hb5⟩
            obtain ⟨hc5, hf5⟩ := bcell hb5
            have hz5 := hb5.size
            try simp at hz5
            have hs5x0 : b1 < w5.heap.size := by omega
            have hs5x1 : fb < w5.heap.size := by omega
            have g5x0 : w5.cell? ⟨b1, o1, none⟩ = some (.int .i64 (A)) := (hc5 _ _ (by first | omega | (simp; done) | (simp; omega))).trans (by first | (with_reducible assumption) | (simp [go_sem]; done) | (simp [go_sem, *]; done) | assumption)
            have g5x1 : w5.cell? ⟨fb, fo + nn, none⟩ = some (.int .i64 G) := (hc5 _ _ (by first | omega | (simp; done) | (simp; omega))).trans (by first | (with_reducible assumption) | (simp [go_sem]; done) | (simp [go_sem, *]; done) | assumption)
            go_wp2_with fail
            refine settle (fun W => W.cell? ⟨b1, o1, none⟩ = some (.int .i64 (A)) ∧ W.cell? ⟨fb, fo + nn, none⟩ = some (.int .i64 G) ∧ b1 < W.heap.size ∧ fb < W.heap.size ∧ Below w4.heap.size w4 W) ⟨?_, ?_, ?_, ?_, ?_⟩ ?_
            · (first | (with_reducible assumption) | (simp [go_sem, *]; done) | assumption)
            · (first | (with_reducible assumption) | (simp [go_sem, *]; done) | assumption)
            · (first | assumption | (simp; done) | (simp; omega) | omega)
            · (first | assumption | (simp; done) | (simp; omega) | omega)
            · (repeat (first | exact Below.refl _ _ | assumption | (with_reducible refine bdrew ?_) | (with_reducible refine baa ?_ _) | (with_reducible refine bs ?_ (by first | exact Nat.le_refl _ | omega | (simp; done) | (simp; omega)) _) | (with_reducible refine bt ?_ (by assumption))))
            rintro W8 ⟨r8x0, r8x1, rs8x0, rs8x1, hB8⟩
            refine wp_region_class (by kernel_rfl) (by kernel_rfl) (fun hall => ?_)
            repeat (first | go_big_quiet_skip | (go_big_quiet_want; first | (refine quiet_load1 _ _ _ rfl rfl ?_ ?_ ?_; (focus (intro _; simp; done)); (focus (first | assumption | omega | (simp; done) | (simp; omega))); apply Exists.intro; refine ⟨?_, ?_⟩; assumption; go_simp; go_big_quiet_on) | (refine quiet_load2 _ _ _ _ rfl rfl ?_ ?_ ?_ ?_; (focus (intro _; simp; done)); (focus (intro _; simp; done)); (focus (first | assumption | omega | (simp; done) | (simp; omega))); apply Exists.intro; apply Exists.intro; refine ⟨?_, ?_, ?_⟩; assumption; assumption; go_simp; go_big_quiet_on) | (refine quiet_load3 _ _ _ _ rfl rfl ?_ ?_ ?_ ?_; (focus (intro _; simp; done)); (focus (intro _; simp; done)); (focus (first | assumption | omega | (simp; done) | (simp; omega))); apply Exists.intro; apply Exists.intro; apply Exists.intro; refine ⟨?_, ?_, ?_, ?_⟩; assumption; assumption; assumption; go_simp; go_big_quiet_on) | (refine quiet_load4 _ _ _ _ rfl rfl ?_ ?_ ?_ ?_; (focus (intro _; simp; done)); (focus (intro _; simp; done)); (focus (first | assumption | omega | (simp; done) | (simp; omega))); apply Exists.intro; apply Exists.intro; apply Exists.intro; apply Exists.intro; refine ⟨?_, ?_, ?_, ?_, ?_⟩; assumption; assumption; assumption; assumption; go_simp; go_big_quiet_on) | (go_big_quiet_op; first | go_big_quiet_on | (apply Exists.intro; refine ⟨fun x hx => ?_, ?_⟩; (first | (with_reducible exact call_same hx (HWj.out _)) | exact call_same hx (HWj.out _)); go_big_quiet_on))))
            refine wpQuiet_nil ?_
            clear hall
            intro x9 hx9
            have z9x0 : x9.cell? ⟨b1, o1, none⟩ = some (.int .i64 (A)) := (hx9.cell (by first | assumption | omega)).trans r8x0
            have z9x1 : x9.cell? ⟨fb, fo + nn, none⟩ = some (.int .i64 G) := (hx9.cell (by first | assumption | omega)).trans r8x1
            have zs9 : b1 < x9.heap.size := World.block_lt_of_cell? _ _ z9x0
            have zf9 : fb < x9.heap.size := World.block_lt_of_cell? _ _ z9x1
            have hB9 : Below w4.heap.size w4 x9 := bt hB8 hx9
            go_wp2_with fail
            refine wp_region_class (by kernel_rfl) (by kernel_rfl) (fun hall => ?_)
            repeat (first | go_big_quiet_skip | (go_big_quiet_want; first | (refine quiet_load1 _ _ _ rfl rfl ?_ ?_ ?_; (focus (intro _; simp; done)); (focus (first | assumption | omega | (simp; done) | (simp; omega))); apply Exists.intro; refine ⟨?_, ?_⟩; assumption; go_simp; go_big_quiet_on) | (refine quiet_load2 _ _ _ _ rfl rfl ?_ ?_ ?_ ?_; (focus (intro _; simp; done)); (focus (intro _; simp; done)); (focus (first | assumption | omega | (simp; done) | (simp; omega))); apply Exists.intro; apply Exists.intro; refine ⟨?_, ?_, ?_⟩; assumption; assumption; go_simp; go_big_quiet_on) | (refine quiet_load3 _ _ _ _ rfl rfl ?_ ?_ ?_ ?_; (focus (intro _; simp; done)); (focus (intro _; simp; done)); (focus (first | assumption | omega | (simp; done) | (simp; omega))); apply Exists.intro; apply Exists.intro; apply Exists.intro; refine ⟨?_, ?_, ?_, ?_⟩; assumption; assumption; assumption; go_simp; go_big_quiet_on) | (refine quiet_load4 _ _ _ _ rfl rfl ?_ ?_ ?_ ?_; (focus (intro _; simp; done)); (focus (intro _; simp; done)); (focus (first | assumption | omega | (simp; done) | (simp; omega))); apply Exists.intro; apply Exists.intro; apply Exists.intro; apply Exists.intro; refine ⟨?_, ?_, ?_, ?_, ?_⟩; assumption; assumption; assumption; assumption; go_simp; go_big_quiet_on) | (go_big_quiet_op; first | go_big_quiet_on | (apply Exists.intro; refine ⟨fun x hx => ?_, ?_⟩; (first | fail); go_big_quiet_on))))
            refine wpQuiet_nil ?_
            clear hall
            intro x11 hx11
            go_wp2_with fail
            go_roundw
            case rel => exact ⟨0 + 1, by omega, by first | rfl | go_num | (simp; omega), congrArg (Value.int .i64) (by rw [HX.out, if_pos (by simpa using cS), List.append_nil, ← HNN.out]), bt hB (bt hB9 hx11)⟩
            case measure => simp [intOf]; omega
          · have cN2 : ¬ (nn : Int) < (nf : Int) := by omega
            have cN3 : decide ((nn : Int) < (nf : Int)) = false := decide_eq_false cN2
            go_wp2_with fail
            refine (HCj.out _ (Tab.below hT (by repeat (first | (with_reducible exact Below.refl _ _) | (with_reducible assumption) | (with_reducible refine bdrew ?_) | (with_reducible refine baa ?_ _) | (with_reducible refine bs ?_ (by first | exact Nat.le_refl _ | omega | (simp; done) | (simp; omega)) _) | (with_reducible refine bt ?_ (by with_reducible assumption))))) (Tab.below hL (by repeat (first | (with_reducible exact Below.refl _ _) | (with_reducible assumption) | (with_reducible refine bdrew ?_) | (with_reducible refine baa ?_ _) | (with_reducible refine bs ?_ (by first | exact Nat.le_refl _ | omega | (simp; done) | (simp; omega)) _) | (with_reducible refine bt ?_ (by with_reducible assumption))))) (Tab.below hF (by repeat (first | (with_reducible exact Below.refl _ _) | (with_reducible assumption) | (with_reducible refine bdrew ?_) | (with_reducible refine baa ?_ _) | (with_reducible refine bs ?_ (by first | exact Nat.le_refl _ | omega | (simp; done) | (simp; omega)) _) | (with_reducible refine bt ?_ (by with_reducible assumption)))))).mono ?_
            rintro e w5 ⟨rfl, hb5⟩
            obtain ⟨hc5, hf5⟩ := bcell hb5
            have hz5 := hb5.size
            try simp at hz5
            have hs5x0 : b1 < w5.heap.size := by omega
            have g5x0 : w5.cell? ⟨b1, o1, none⟩ = some (.int .i64 (A)) := (hc5 _ _ (by first | omega | (simp; done) | (simp; omega))).trans (by first | (with_reducible assumption) | (simp [go_sem]; done) | (simp [go_sem, *]; done) | assumption)
            go_wp2_with fail
            refine settle (fun W => W.cell? ⟨b1, o1, none⟩ = some (.int .i64 (A)) ∧ b1 < W.heap.size ∧ Below w4.heap.size w4 W) ⟨?_, ?_, ?_⟩ ?_
            · (first | (with_reducible assumption) | (simp [go_sem, *]; done) | assumption)
            · (first | assumption | (simp; done) | (simp; omega) | omega)
            · (repeat (first | exact Below.refl _ _ | assumption | (with_reducible refine bdrew ?_) | (with_reducible refine baa ?_ _) | (with_reducible refine bs ?_ (by first | exact Nat.le_refl _ | omega | (simp; done) | (simp; omega)) _) | (with_reducible refine bt ?_ (by assumption))))
            rintro W8 ⟨r8x0, rs8x0, hB8⟩
            refine wp_region_class (by kernel_rfl) (by kernel_rfl) (fun hall => ?_)
            repeat (first | go_big_quiet_skip | (go_big_quiet_want; first | (refine quiet_load1 _ _ _ rfl rfl ?_ ?_ ?_; (focus (intro _; simp; done)); (focus (first | assumption | omega | (simp; done) | (simp; omega))); apply Exists.intro; refine ⟨?_, ?_⟩; assumption; go_simp; go_big_quiet_on) | (refine quiet_load2 _ _ _ _ rfl rfl ?_ ?_ ?_ ?_; (focus (intro _; simp; done)); (focus (intro _; simp; done)); (focus (first | assumption | omega | (simp; done) | (simp; omega))); apply Exists.intro; apply Exists.intro; refine ⟨?_, ?_, ?_⟩; assumption; assumption; go_simp; go_big_quiet_on) | (refine quiet_load3 _ _ _ _ rfl rfl ?_ ?_ ?_ ?_; (focus (intro _; simp; done)); (focus (intro _; simp; done)); (focus (first | assumption | omega | (simp; done) | (simp; omega))); apply Exists.intro; apply Exists.intro; apply Exists.intro; refine ⟨?_, ?_, ?_, ?_⟩; assumption; assumption; assumption; go_simp; go_big_quiet_on) | (refine quiet_load4 _ _ _ _ rfl rfl ?_ ?_ ?_ ?_; (focus (intro _; simp; done)); (focus (intro _; simp; done)); (focus (first | assumption | omega | (simp; done) | (simp; omega))); apply Exists.intro; apply Exists.intro; apply Exists.intro; apply Exists.intro; refine ⟨?_, ?_, ?_, ?_, ?_⟩; assumption; assumption; assumption; assumption; go_simp; go_big_quiet_on) | (go_big_quiet_op; first | go_big_quiet_on | (apply Exists.intro; refine ⟨fun x hx => ?_, ?_⟩; (first | (with_reducible exact call_same hx (HWj.out _)) | exact call_same hx (HWj.out _)); go_big_quiet_on))))
            refine wpQuiet_nil ?_
            clear hall
            intro x9 hx9
            have z9x0 : x9.cell? ⟨b1, o1, none⟩ = some (.int .i64 (A)) := (hx9.cell (by first | assumption | omega)).trans r8x0
            have zs9 : b1 < x9.heap.size := World.block_lt_of_cell? _ _ z9x0
            have hB9 : Below w4.heap.size w4 x9 := bt hB8 hx9
            go_wp2_with fail
            refine wp_region_class (by kernel_rfl) (by kernel_rfl) (fun hall => ?_)
            repeat (first | go_big_quiet_skip | (go_big_quiet_want; first | (refine quiet_load1 _ _ _ rfl rfl ?_ ?_ ?_; (focus (intro _; simp; done)); (focus (first | assumption | omega | (simp; done) | (simp; omega))); apply Exists.intro; refine ⟨?_, ?_⟩; assumption; go_simp; go_big_quiet_on) | (refine quiet_load2 _ _ _ _ rfl rfl ?_ ?_ ?_ ?_; (focus (intro _; simp; done)); (focus (intro _; simp; done)); (focus (first | assumption | omega | (simp; done) | (simp; omega))); apply Exists.intro; apply Exists.intro; refine ⟨?_, ?_, ?_⟩; assumption; assumption; go_simp; go_big_quiet_on) | (refine quiet_load3 _ _ _ _ rfl rfl ?_ ?_ ?_ ?_; (focus (intro _; simp; done)); (focus (intro _; simp; done)); (focus (first | assumption | omega | (simp; done) | (simp; omega))); apply Exists.intro; apply Exists.intro; apply Exists.intro; refine ⟨?_, ?_, ?_, ?_⟩; assumption; assumption; assumption; go_simp; go_big_quiet_on) | (refine quiet_load4 _ _ _ _ rfl rfl ?_ ?_ ?_ ?_; (focus (intro _; simp; done)); (focus (intro _; simp; done)); (focus (first | assumption | omega | (simp; done) | (simp; omega))); apply Exists.intro; apply Exists.intro; apply Exists.intro; apply Exists.intro; refine ⟨?_, ?_, ?_, ?_, ?_⟩; assumption; assumption; assumption; assumption; go_simp; go_big_quiet_on) | (go_big_quiet_op; first | go_big_quiet_on | (apply Exists.intro; refine ⟨fun x hx => ?_, ?_⟩; (first | fail); go_big_quiet_on))))
            refine wpQuiet_nil ?_
            clear hall
            intro x11 hx11
            go_wp2_with fail
            go_roundw
            case rel => exact ⟨0 + 1, by omega, by first | rfl | go_num | (simp; omega), congrArg (Value.int .i64) (by rw [HX.out, if_pos (by simpa using cS), List.append_nil, ← HNN.out]), bt hB (bt hB9 hx11)⟩
            case measure => simp [intOf]; omega
        · obtain ⟨cN, hG⟩ := HH.out cS
          obtain ⟨fb, fo, fc, hp2, hcf⟩ := hrf.at_some (by rw [HNF.out]; omega)
          rw [HNF.out] at hp2
          simp only [Value.slice.injEq] at hp2
          obtain ⟨rfl, -, rfl⟩ := hp2
          have cf := hcf nn _ hG
          have lf := World.block_lt_of_cell? _ _ cf
          dsimp only at lf
          have cN2 : (nn : Int) < (nf : Int) := by omega
          clear hcf hG
          go_wp2_with fail
          refine (HCj.out _ (Tab.below hT (by repeat (first | (with_reducible exact Below.refl _ _) | (with_reducible assumption) | (with_reducible refine bdrew ?_) | (with_reducible refine baa ?_ _) | (with_reducible refine bs ?_ (by first | exact Nat.le_refl _ | omega | (simp; done) | (simp; omega)) _) | (with_reducible refine bt ?_ (by with_reducible assumption))))) (Tab.below hL (by repeat (first | (with_reducible exact Below.refl _ _) | (with_reducible assumption) | (with_reducible refine bdrew ?_) | (with_reducible refine baa ?_ _) | (with_reducible refine bs ?_ (by first | exact Nat.le_refl _ | omega | (simp; done) | (simp; omega)) _) | (with_reducible refine bt ?_ (by with_reducible assumption))))) (Tab.below hF (by repeat (first | (with_reducible exact Below.refl _ _) | (with_reducible assumption) | (with_reducible refine bdrew ?_) | (with_reducible refine baa ?_ _) | (with_reducible refine bs ?_ (by first | exact Nat.le_refl _ | omega | (simp; done) | (simp; omega)) _) | (with_reducible refine bt ?_ (by with_reducible assumption)))))).mono ?_
          rintro e w5 ⟨rfl, hb5⟩
          obtain ⟨hc5, hf5⟩ := bcell hb5
          have hz5 := hb5.size
          try simp at hz5
          have hs5x0 : b1 < w5.heap.size := by omega
          have hs5x1 : fb < w5.heap.size := by omega
          have g5x0 : w5.cell? ⟨b1, o1, none⟩ = some (.int .i64 (A)) := (hc5 _ _ (by first | omega | (simp; done) | (simp; omega))).trans (by first | (with_reducible assumption) | (simp [go_sem]; done) | (simp [go_sem, *]; done) | assumption)
          have g5x1 : w5.cell? ⟨fb, fo + nn, none⟩ = some (.int .i64 (A)) := (hc5 _ _ (by first | omega | (simp; done) | (simp; omega))).trans (by first | (with_reducible assumption) | (simp [go_sem]; done) | (simp [go_sem, *]; done) | assumption)
          go_wp2_with fail
          refine settle (fun W => W.cell? ⟨b1, o1, none⟩ = some (.int .i64 (A)) ∧ W.cell? ⟨fb, fo + nn, none⟩ = some (.int .i64 (A)) ∧ b1 < W.heap.size ∧ fb < W.heap.size ∧ Below w4.heap.size w4 W) ⟨?_, ?_, ?_, ?_, ?_⟩ ?_
          · (first | (with_reducible assumption) | (simp [go_sem, *]; done) | assumption)
          · (first | (with_reducible assumption) | (simp [go_sem, *]; done) | assumption)
          · (first | assumption | (simp; done) | (simp; omega) | omega)
          · (first | assumption | (simp; done) | (simp; omega) | omega)
          · (repeat (first | exact Below.refl _ _ | assumption | (with_reducible refine bdrew ?_) | (with_reducible refine baa ?_ _) | (with_reducible refine bs ?_ (by first | exact Nat.le_refl _ | omega | (simp; done) | (simp; omega)) _) | (with_reducible refine bt ?_ (by assumption))))
          rintro W8 ⟨r8x0, r8x1, rs8x0, rs8x1, hB8⟩
          refine wp_region_class (by kernel_rfl) (by kernel_rfl) (fun hall => ?_)
          repeat (first | go_big_quiet_skip | (go_big_quiet_want; first | (refine quiet_load1 _ _ _ rfl rfl ?_ ?_ ?_; (focus (intro _; simp; done)); (focus (first | assumption | omega | (simp; done) | (simp; omega))); apply Exists.intro; refine ⟨?_, ?_⟩; assumption; go_simp; go_big_quiet_on) | (refine quiet_load2 _ _ _ _ rfl rfl ?_ ?_ ?_ ?_; (focus (intro _; simp; done)); (focus (intro _; simp; done)); (focus (first | assumption | omega | (simp; done) | (simp; omega))); apply Exists.intro; apply Exists.intro; refine ⟨?_, ?_, ?_⟩; assumption; assumption; go_simp; go_big_quiet_on) | (refine quiet_load3 _ _ _ _ rfl rfl ?_ ?_ ?_ ?_; (focus (intro _; simp; done)); (focus (intro _; simp; done)); (focus (first | assumption | omega | (simp; done) | (simp; omega))); apply Exists.intro; apply Exists.intro; apply Exists.intro; refine ⟨?_, ?_, ?_, ?_⟩; assumption; assumption; assumption; go_simp; go_big_quiet_on) | (refine quiet_load4 _ _ _ _ rfl rfl ?_ ?_ ?_ ?_; (focus (intro _; simp; done)); (focus (intro _; simp; done)); (focus (first | assumption | omega | (simp; done) | (simp; omega))); apply Exists.intro; apply Exists.intro; apply Exists.intro; apply Exists.intro; refine ⟨?_, ?_, ?_, ?_, ?_⟩; assumption; assumption; assumption; assumption; go_simp; go_big_quiet_on) | (go_big_quiet_op; first | go_big_quiet_on | (apply Exists.intro; refine ⟨fun x hx => ?_, ?_⟩; (first | (with_reducible exact call_same hx (HWj.out _)) | exact call_same hx (HWj.out _)); go_big_quiet_on))))
          refine wpQuiet_nil ?_
          clear hall
          intro x9 hx9
          have z9x0 : x9.cell? ⟨b1, o1, none⟩ = some (.int .i64 (A)) := (hx9.cell (by first | assumption | omega)).trans r8x0
          have z9x1 : x9.cell? ⟨fb, fo + nn, none⟩ = some (.int .i64 (A)) := (hx9.cell (by first | assumption | omega)).trans r8x1
          have zs9 : b1 < x9.heap.size := World.block_lt_of_cell? _ _ z9x0
          have zf9 : fb < x9.heap.size := World.block_lt_of_cell? _ _ z9x1
          have hB9 : Below w4.heap.size w4 x9 := bt hB8 hx9
          go_wp2_with fail
          refine wp_region_class (by kernel_rfl) (by kernel_rfl) (fun hall => ?_)
          repeat (first | go_big_quiet_skip | (go_big_quiet_want; first | (refine quiet_load1 _ _ _ rfl rfl ?_ ?_ ?_; (focus (intro _; simp; done)); (focus (first | assumption | omega | (simp; done) | (simp; omega))); apply Exists.intro; refine ⟨?_, ?_⟩; assumption; go_simp; go_big_quiet_on) | (refine quiet_load2 _ _ _ _ rfl rfl ?_ ?_ ?_ ?_; (focus (intro _; simp; done)); (focus (intro _; simp; done)); (focus (first | assumption | omega | (simp; done) | (simp; omega))); apply Exists.intro; apply Exists.intro; refine ⟨?_, ?_, ?_⟩; assumption; assumption; go_simp; go_big_quiet_on) | (refine quiet_load3 _ _ _ _ rfl rfl ?_ ?_ ?_ ?_; (focus (intro _; simp; done)); (focus (intro _; simp; done)); (focus (first | assumption | omega | (simp; done) | (simp; omega))); apply Exists.intro; apply Exists.intro; apply Exists.intro; refine ⟨?_, ?_, ?_, ?_⟩; assumption; assumption; assumption; go_simp; go_big_quiet_on) | (refine quiet_load4 _ _ _ _ rfl rfl ?_ ?_ ?_ ?_; (focus (intro _; simp; done)); (focus (intro _; simp; done)); (focus (first | assumption | omega | (simp; done) | (simp; omega))); apply Exists.intro; apply Exists.intro; apply Exists.intro; apply Exists.intro; refine ⟨?_, ?_, ?_, ?_, ?_⟩; assumption; assumption; assumption; assumption; go_simp; go_big_quiet_on) | (go_big_quiet_op; first | go_big_quiet_on | (apply Exists.intro; refine ⟨fun x hx => ?_, ?_⟩; (first | fail); go_big_quiet_on))))
          refine wpQuiet_nil ?_
          clear hall
          intro x11 hx11
          go_wp2_with fail
          go_roundw
          case rel => exact ⟨0 + 1, by omega, by first | rfl | go_num | (simp; omega), congrArg (Value.int .i64) (by rw [HX.out, if_neg (by simpa using cS), List.length_append, ← HNN.out]; simp), bt hB (bt hB9 hx11)⟩
          case measure => simp [intOf]; omega
      · obtain ⟨q, hq⟩ : ∃ q, j = q + 1 := ⟨j - 1, by omega⟩
        obtain ⟨E, hE⟩ : ∃ E, E = A + 7 * (q : Int) := ⟨_, rfl⟩
        have cxq := hc q _ (HG.out q (by omega))
        rw [← hE] at cxq
        have hD : A + 7 * (j : Int) = E + 7 := by rw [hE, hq]; push_cast; omega
        have HD := Lib.hid hD
        rw [hD] at HCj HWj HH HX cxj
        have v1 : -2000000 ≤ E := by omega
        have v2 : E ≤ 3000500 := by omega
        have p1 : 0 < (j : Int) := by omega
        have p2 : 0 < j := by omega
        have r0 : (0 : Int) ≤ (q : Int) := by omega
        have r1 : (q : Int) < (n : Int) := by omega
        have r2 : (j : Int) - 1 = (q : Int) := by omega
        clear hc hx hrl hnn hE hq hD hj0
        by_cases cS : E + 7 ∈ S
        · by_cases cN : nn < nf
          · obtain ⟨G, hG⟩ : ∃ G, fl[nn]? = some G := ⟨_, List.getElem?_eq_getElem (by rw [HNF.out]; exact cN)⟩
            obtain ⟨fb, fo, fc, hp2, hcf⟩ := hrf.at_some (by rw [HNF.out]; omega)
            rw [HNF.out] at hp2
            simp only [Value.slice.injEq] at hp2
            obtain ⟨rfl, -, rfl⟩ := hp2
            have hne : G ≠ E + 7 := fun e => HM.out G hG (e ▸ cS)
            have hne2 : (G == E + 7) = false := by simpa using hne
            have cf := hcf nn _ hG
            have lf := World.block_lt_of_cell? _ _ cf
            dsimp only at lf
            have cN2 : (nn : Int) < (nf : Int) := by omega
            clear hcf hG
            go_wp2_with fail
            refine (HCj.out _ (Tab.below hT (by repeat (first | (with_reducible exact Below.refl _ _) | (with_reducible assumption) | (with_reducible refine bdrew ?_) | (with_reducible refine baa ?_ _) | (with_reducible refine bs ?_ (by first | exact Nat.le_refl _ | omega | (simp; done) | (simp; omega)) _) | (with_reducible refine bt ?_ (by with_reducible assumption))))) (Tab.below hL (by repeat (first | (with_reducible exact Below.refl _ _) | (with_reducible assumption) | (with_reducible refine bdrew ?_) | (with_reducible refine baa ?_ _) | (with_reducible refine bs ?_ (by first | exact Nat.le_refl _ | omega | (simp; done) | (simp; omega)) _) | (with_reducible refine bt ?_ (by with_reducible assumption))))) (Tab.below hF (by repeat (first | (with_reducible exact Below.refl _ _) | (with_reducible assumption) | (with_reducible refine bdrew ?_) | (with_reducible refine baa ?_ _) | (with_reducible refine bs ?_ (by first | exact Nat.le_refl _ | omega | (simp; done) | (simp; omega)) _) | (with_reducible refine bt ?_ (by with_reducible assumption)))))).mono ?_
            rintro e w5 ⟨rfl, hb5⟩
            obtain ⟨hc5, hf5⟩ := bcell hb5
            have hz5 := hb5.size
            try simp at hz5
            have hs5x0 : b1 < w5.heap.size := by omega
            have hs5x1 : fb < w5.heap.size := by omega
            have g5x0 : w5.cell? ⟨b1, o1 + j, none⟩ = some (.int .i64 (E + 7)) := (hc5 _ _ (by first | omega | (simp; done) | (simp; omega))).trans (by first | (with_reducible assumption) | (simp [go_sem]; done) | (simp [go_sem, *]; done) | assumption)
            have g5x1 : w5.cell? ⟨b1, o1 + q, none⟩ = some (.int .i64 E) := (hc5 _ _ (by first | omega | (simp; done) | (simp; omega))).trans (by first | (with_reducible assumption) | (simp [go_sem]; done) | (simp [go_sem, *]; done) | assumption)
            have g5x2 : w5.cell? ⟨fb, fo + nn, none⟩ = some (.int .i64 G) := (hc5 _ _ (by first | omega | (simp; done) | (simp; omega))).trans (by first | (with_reducible assumption) | (simp [go_sem]; done) | (simp [go_sem, *]; done) | assumption)
            go_wp2_with fail
            refine settle (fun W => W.cell? ⟨b1, o1 + j, none⟩ = some (.int .i64 (E + 7)) ∧ W.cell? ⟨b1, o1 + q, none⟩ = some (.int .i64 E) ∧ W.cell? ⟨fb, fo + nn, none⟩ = some (.int .i64 G) ∧ b1 < W.heap.size ∧ fb < W.heap.size ∧ Below w4.heap.size w4 W) ⟨?_, ?_, ?_, ?_, ?_, ?_⟩ ?_
            · (first | (with_reducible assumption) | (simp [go_sem, *]; done) | assumption)
            · (first | (with_reducible assumption) | (simp [go_sem, *]; done) | assumption)
            · (first | (with_reducible assumption) | (simp [go_sem, *]; done) | assumption)
            · (first | assumption | (simp; done) | (simp; omega) | omega)
            · (first | assumption | (simp; done) | (simp; omega) | omega)
            · (repeat (first | exact Below.refl _ _ | assumption | (with_reducible refine bdrew ?_) | (with_reducible refine baa ?_ _) | (with_reducible refine bs ?_ (by first | exact Nat.le_refl _ | omega | (simp; done) | (simp; omega)) _) | (with_reducible refine bt ?_ (by assumption))))
            rintro W8 ⟨r8x0, r8x1, r8x2, rs8x0, rs8x1, hB8⟩
            refine wp_region_class (by kernel_rfl) (by kernel_rfl) (fun hall => ?_)
            repeat (first | go_big_quiet_skip | (go_big_quiet_want; first | (refine quiet_load1 _ _ _ rfl rfl ?_ ?_ ?_; (focus (intro _; simp; done)); (focus (first | assumption | omega | (simp; done) | (simp; omega))); apply Exists.intro; refine ⟨?_, ?_⟩; assumption; go_simp; go_big_quiet_on) | (refine quiet_load2 _ _ _ _ rfl rfl ?_ ?_ ?_ ?_; (focus (intro _; simp; done)); (focus (intro _; simp; done)); (focus (first | assumption | omega | (simp; done) | (simp; omega))); apply Exists.intro; apply Exists.intro; refine ⟨?_, ?_, ?_⟩; assumption; assumption; go_simp; go_big_quiet_on) | (refine quiet_load3 _ _ _ _ rfl rfl ?_ ?_ ?_ ?_; (focus (intro _; simp; done)); (focus (intro _; simp; done)); (focus (first | assumption | omega | (simp; done) | (simp; omega))); apply Exists.intro; apply Exists.intro; apply Exists.intro; refine ⟨?_, ?_, ?_, ?_⟩; assumption; assumption; assumption; go_simp; go_big_quiet_on) | (refine quiet_load4 _ _ _ _ rfl rfl ?_ ?_ ?_ ?_; (focus (intro _; simp; done)); (focus (intro _; simp; done)); (focus (first | assumption | omega | (simp; done) | (simp; omega))); apply Exists.intro; apply Exists.intro; apply Exists.intro; apply Exists.intro; refine ⟨?_, ?_, ?_, ?_, ?_⟩; assumption; assumption; assumption; assumption; go_simp; go_big_quiet_on) | (go_big_quiet_op; first | go_big_quiet_on | (apply Exists.intro; refine ⟨fun x hx => ?_, ?_⟩; (first | (with_reducible exact call_same hx (HWj.out _)) | exact call_same hx (HWj.out _)); go_big_quiet_on))))
            refine wpQuiet_nil ?_
            clear hall
            intro x9 hx9
            have z9x0 : x9.cell? ⟨b1, o1 + j, none⟩ = some (.int .i64 (E + 7)) := (hx9.cell (by first | assumption | omega)).trans r8x0
            have z9x1 : x9.cell? ⟨b1, o1 + q, none⟩ = some (.int .i64 E) := (hx9.cell (by first | assumption | omega)).trans r8x1
            have z9x2 : x9.cell? ⟨fb, fo + nn, none⟩ = some (.int .i64 G) := (hx9.cell (by first | assumption | omega)).trans r8x2
            have zs9 : b1 < x9.heap.size := World.block_lt_of_cell? _ _ z9x0
            have zf9 : fb < x9.heap.size := World.block_lt_of_cell? _ _ z9x2
            have hB9 : Below w4.heap.size w4 x9 := bt hB8 hx9
            go_wp2_with fail
            refine wp_region_class (by kernel_rfl) (by kernel_rfl) (fun hall => ?_)
            repeat (first | go_big_quiet_skip | (go_big_quiet_want; first | (refine quiet_load1 _ _ _ rfl rfl ?_ ?_ ?_; (focus (intro _; simp; done)); (focus (first | assumption | omega | (simp; done) | (simp; omega))); apply Exists.intro; refine ⟨?_, ?_⟩; assumption; go_simp; go_big_quiet_on) | (refine quiet_load2 _ _ _ _ rfl rfl ?_ ?_ ?_ ?_; (focus (intro _; simp; done)); (focus (intro _; simp; done)); (focus (first | assumption | omega | (simp; done) | (simp; omega))); apply Exists.intro; apply Exists.intro; refine ⟨?_, ?_, ?_⟩; assumption; assumption; go_simp; go_big_quiet_on) | (refine quiet_load3 _ _ _ _ rfl rfl ?_ ?_ ?_ ?_; (focus (intro _; simp; done)); (focus (intro _; simp; done)); (focus (first | assumption | omega | (simp; done) | (simp; omega))); apply Exists.intro; apply Exists.intro; apply Exists.intro; refine ⟨?_, ?_, ?_, ?_⟩; assumption; assumption; assumption; go_simp; go_big_quiet_on) | (refine quiet_load4 _ _ _ _ rfl rfl ?_ ?_ ?_ ?_; (focus (intro _; simp; done)); (focus (intro _; simp; done)); (focus (first | assumption | omega | (simp; done) | (simp; omega))); apply Exists.intro; apply Exists.intro; apply Exists.intro; apply Exists.intro; refine ⟨?_, ?_, ?_, ?_, ?_⟩; assumption; assumption; assumption; assumption; go_simp; go_big_quiet_on) | (go_big_quiet_op; first | go_big_quiet_on | (apply Exists.intro; refine ⟨fun x hx => ?_, ?_⟩; (first | fail); go_big_quiet_on))))
            refine wpQuiet_nil ?_
            clear hall
            intro x11 hx11
            go_wp2_with fail
            go_roundw
            case rel => exact ⟨j + 1, by omega, by first | rfl | go_num | (simp; omega), congrArg (Value.int .i64) (by rw [HX.out, if_pos (by simpa using cS), List.append_nil, ← HNN.out]), bt hB (bt hB9 hx11)⟩
            case measure => simp [intOf]; omega
          · have cN2 : ¬ (nn : Int) < (nf : Int) := by omega
            have cN3 : decide ((nn : Int) < (nf : Int)) = false := decide_eq_false cN2
            go_wp2_with fail
            refine (HCj.out _ (Tab.below hT (by repeat (first | (with_reducible exact Below.refl _ _) | (with_reducible assumption) | (with_reducible refine bdrew ?_) | (with_reducible refine baa ?_ _) | (with_reducible refine bs ?_ (by first | exact Nat.le_refl _ | omega | (simp; done) | (simp; omega)) _) | (with_reducible refine bt ?_ (by with_reducible assumption))))) (Tab.below hL (by repeat (first | (with_reducible exact Below.refl _ _) | (with_reducible assumption) | (with_reducible refine bdrew ?_) | (with_reducible refine baa ?_ _) | (with_reducible refine bs ?_ (by first | exact Nat.le_refl _ | omega | (simp; done) | (simp; omega)) _) | (with_reducible refine bt ?_ (by with_reducible assumption))))) (Tab.below hF (by repeat (first | (with_reducible exact Below.refl _ _) | (with_reducible assumption) | (with_reducible refine bdrew ?_) | (with_reducible refine baa ?_ _) | (with_reducible refine bs ?_ (by first | exact Nat.le_refl _ | omega | (simp; done) | (simp; omega)) _) | (with_reducible refine bt ?_ (by with_reducible assumption)))))).mono ?_
            rintro e w5 ⟨rfl, hb5⟩
            obtain ⟨hc5, hf5⟩ := bcell hb5
            have hz5 := hb5.size
            try simp at hz5
            have hs5x0 : b1 < w5.heap.size := by omega
            have g5x0 : w5.cell? ⟨b1, o1 + j, none⟩ = some (.int .i64 (E + 7)) := (hc5 _ _ (by first | omega | (simp; done) | (simp; omega))).trans (by first | (with_reducible assumption) | (simp [go_sem]; done) | (simp [go_sem, *]; done) | assumption)
            have g5x1 : w5.cell? ⟨b1, o1 + q, none⟩ = some (.int .i64 E) := (hc5 _ _ (by first | omega | (simp; done) | (simp; omega))).trans (by first | (with_reducible assumption) | (simp [go_sem]; done) | (simp [go_sem, *]; done) | assumption)
            go_wp2_with fail
            refine settle (fun W => W.cell? ⟨b1, o1 + j, none⟩ = some (.int .i64 (E + 7)) ∧ W.cell? ⟨b1, o1 + q, none⟩ = some (.int .i64 E) ∧ b1 < W.heap.size ∧ Below w4.heap.size w4 W) ⟨?_, ?_, ?_, ?_⟩ ?_
            · (first | (with_reducible assumption) | (simp [go_sem, *]; done) | assumption)
            · (first | (with_reducible assumption) | (simp [go_sem, *]; done) | assumption)
            · (first | assumption | (simp; done) | (simp; omega) | omega)
            · (repeat (first | exact Below.refl _ _ | assumption | (with_reducible refine bdrew ?_) | (with_reducible refine baa ?_ _) | (with_reducible refine bs ?_ (by first | exact Nat.le_refl _ | omega | (simp; done) | (simp; omega)) _) | (with_reducible refine bt ?_ (by assumption))))
            rintro W8 ⟨r8x0, r8x1, rs8x0, hB8⟩
            refine wp_region_class (by kernel_rfl) (by kernel_rfl) (fun hall => ?_)
            repeat (first | go_big_quiet_skip | (go_big_quiet_want; first | (refine quiet_load1 _ _ _ rfl rfl ?_ ?_ ?_; (focus (intro _; simp; done)); (focus (first | assumption | omega | (simp; done) | (simp; omega))); apply Exists.intro; refine ⟨?_, ?_⟩; assumption; go_simp; go_big_quiet_on) | (refine quiet_load2 _ _ _ _ rfl rfl ?_ ?_ ?_ ?_; (focus (intro _; simp; done)); (focus (intro _; simp; done)); (focus (first | assumption | omega | (simp; done) | (simp; omega))); apply Exists.intro; apply Exists.intro; refine ⟨?_, ?_, ?_⟩; assumption; assumption; go_simp; go_big_quiet_on) | (refine quiet_load3 _ _ _ _ rfl rfl ?_ ?_ ?_ ?_; (focus (intro _; simp; done)); (focus (intro _; simp; done)); (focus (first | assumption | omega | (simp; done) | (simp; omega))); apply Exists.intro; apply Exists.intro; apply Exists.intro; refine ⟨?_, ?_, ?_, ?_⟩; assumption; assumption; assumption; go_simp; go_big_quiet_on) | (refine quiet_load4 _ _ _ _ rfl rfl ?_ ?_ ?_ ?_; (focus (intro _; simp; done)); (focus (intro _; simp; done)); (focus (first | assumption | omega | (simp; done) | (simp; omega))); apply Exists.intro; apply Exists.intro; apply Exists.intro; apply Exists.intro; refine ⟨?_, ?_, ?_, ?_, ?_⟩; assumption; assumption; assumption; assumption; go_simp; go_big_quiet_on) | (go_big_quiet_op; first | go_big_quiet_on | (apply Exists.intro; refine ⟨fun x hx => ?_, ?_⟩; (first | (with_reducible exact call_same hx (HWj.out _)) | exact call_same hx (HWj.out _)); go_big_quiet_on))))
            refine wpQuiet_nil ?_
            clear hall
            intro x9 hx9
            have z9x0 : x9.cell? ⟨b1, o1 + j, none⟩ = some (.int .i64 (E + 7)) := (hx9.cell (by first | assumption | omega)).trans r8x0
            have z9x1 : x9.cell? ⟨b1, o1 + q, none⟩ = some (.int .i64 E) := (hx9.cell (by first | assumption | omega)).trans r8x1
            have zs9 : b1 < x9.heap.size := World.block_lt_of_cell? _ _ z9x0
            have hB9 : Below w4.heap.size w4 x9 := bt hB8 hx9
            go_wp2_with fail
            refine wp_region_class (by kernel_rfl) (by kernel_rfl) (fun hall => ?_)
            repeat (first | go_big_quiet_skip | (go_big_quiet_want; first | (refine quiet_load1 _ _ _ rfl rfl ?_ ?_ ?_; (focus (intro _; simp; done)); (focus (first | assumption | omega | (simp; done) | (simp; omega))); apply Exists.intro; refine ⟨?_, ?_⟩; assumption; go_simp; go_big_quiet_on) | (refine quiet_load2 _ _ _ _ rfl rfl ?_ ?_ ?_ ?_; (focus (intro _; simp; done)); (focus (intro _; simp; done)); (focus (first | assumption | omega | (simp; done) | (simp; omega))); apply Exists.intro; apply Exists.intro; refine ⟨?_, ?_, ?_⟩; assumption; assumption; go_simp; go_big_quiet_on) | (refine quiet_load3 _ _ _ _ rfl rfl ?_ ?_ ?_ ?_; (focus (intro _; simp; done)); (focus (intro _; simp; done)); (focus (first | assumption | omega | (simp; done) | (simp; omega))); apply Exists.intro; apply Exists.intro; apply Exists.intro; refine ⟨?_, ?_, ?_, ?_⟩; assumption; assumption; assumption; go_simp; go_big_quiet_on) | (refine quiet_load4 _ _ _ _ rfl rfl ?_ ?_ ?_ ?_; (focus (intro _; simp; done)); (focus (intro _; simp; done)); (focus (first | assumption | omega | (simp; done) | (simp; omega))); apply Exists.intro; apply Exists.intro; apply Exists.intro; apply Exists.intro; refine ⟨?_, ?_, ?_, ?_, ?_⟩; assumption; assumption; assumption; assumption; go_simp; go_big_quiet_on) | (go_big_quiet_op; first | go_big_quiet_on | (apply Exists.intro; refine ⟨fun x hx => ?_, ?_⟩; (first | fail); go_big_quiet_on))))
            refine wpQuiet_nil ?_
            clear hall
            intro x11 hx11
            go_wp2_with fail
            go_roundw
            case rel => exact ⟨j + 1, by omega, by first | rfl | go_num | (simp; omega), congrArg (Value.int .i64) (by rw [HX.out, if_pos (by simpa using cS), List.append_nil, ← HNN.out]), bt hB (bt hB9 hx11)⟩
            case measure => simp [intOf]; omega
        · obtain ⟨cN, hG⟩ := HH.out cS
          obtain ⟨fb, fo, fc, hp2, hcf⟩ := hrf.at_some (by rw [HNF.out]; omega)
          rw [HNF.out] at hp2
          simp only [Value.slice.injEq] at hp2
          obtain ⟨rfl, -, rfl⟩ := hp2
          have cf := hcf nn _ hG
          have lf := World.block_lt_of_cell? _ _ cf
          dsimp only at lf
          have cN2 : (nn : Int) < (nf : Int) := by omega
          clear hcf hG
          go_wp2_with fail
          refine (HCj.out _ (Tab.below hT (by repeat (first | (with_reducible exact Below.refl _ _) | (with_reducible assumption) | (with_reducible refine bdrew ?_) | (with_reducible refine baa ?_ _) | (with_reducible refine bs ?_ (by first | exact Nat.le_refl _ | omega | (simp; done) | (simp; omega)) _) | (with_reducible refine bt ?_ (by with_reducible assumption))))) (Tab.below hL (by repeat (first | (with_reducible exact Below.refl _ _) | (with_reducible assumption) | (with_reducible refine bdrew ?_) | (with_reducible refine baa ?_ _) | (with_reducible refine bs ?_ (by first | exact Nat.le_refl _ | omega | (simp; done) | (simp; omega)) _) | (with_reducible refine bt ?_ (by with_reducible assumption))))) (Tab.below hF (by repeat (first | (with_reducible exact Below.refl _ _) | (with_reducible assumption) | (with_reducible refine bdrew ?_) | (with_reducible refine baa ?_ _) | (with_reducible refine bs ?_ (by first | exact Nat.le_refl _ | omega | (simp; done) | (simp; omega)) _) | (with_reducible refine bt ?_ (by with_reducible assumption)))))).mono ?_
          rintro e w5 ⟨rfl, hb5⟩
          obtain ⟨hc5, hf5⟩ := bcell hb5
          have hz5 := hb5.size
          try simp at hz5
          have hs5x0 : b1 < w5.heap.size := by omega
          have hs5x1 : fb < w5.heap.size := by omega
          have g5x0 : w5.cell? ⟨b1, o1 + j, none⟩ = some (.int .i64 (E + 7)) := (hc5 _ _ (by first | omega | (simp; done) | (simp; omega))).trans (by first | (with_reducible assumption) | (simp [go_sem]; done) | (simp [go_sem, *]; done) | assumption)
          have g5x1 : w5.cell? ⟨b1, o1 + q, none⟩ = some (.int .i64 E) := (hc5 _ _ (by first | omega | (simp; done) | (simp; omega))).trans (by first | (with_reducible assumption) | (simp [go_sem]; done) | (simp [go_sem, *]; done) | assumption)
          have g5x2 : w5.cell? ⟨fb, fo + nn, none⟩ = some (.int .i64 (E + 7)) := (hc5 _ _ (by first | omega | (simp; done) | (simp; omega))).trans (by first | (with_reducible assumption) | (simp [go_sem]; done) | (simp [go_sem, *]; done) | assumption)
          go_wp2_with fail
          refine settle (fun W => W.cell? ⟨b1, o1 + j, none⟩ = some (.int .i64 (E + 7)) ∧ W.cell? ⟨b1, o1 + q, none⟩ = some (.int .i64 E) ∧ W.cell? ⟨fb, fo + nn, none⟩ = some (.int .i64 (E + 7)) ∧ b1 < W.heap.size ∧ fb < W.heap.size ∧ Below w4.heap.size w4 W) ⟨?_, ?_, ?_, ?_, ?_, ?_⟩ ?_
          · (first | (with_reducible assumption) | (simp [go_sem, *]; done) | assumption)
          · (first | (with_reducible assumption) | (simp [go_sem, *]; done) | assumption)
          · (first | (with_reducible assumption) | (simp [go_sem, *]; done) | assumption)
          · (first | assumption | (simp; done) | (simp; omega) | omega)
          · (first | assumption | (simp; done) | (simp; omega) | omega)
          · (repeat (first | exact Below.refl _ _ | assumption | (with_reducible refine bdrew ?_) | (with_reducible refine baa ?_ _) | (with_reducible refine bs ?_ (by first | exact Nat.le_refl _ | omega | (simp; done) | (simp; omega)) _) | (with_reducible refine bt ?_ (by assumption))))
          rintro W8 ⟨r8x0, r8x1, r8x2, rs8x0, rs8x1, hB8⟩
          refine wp_region_class (by kernel_rfl) (by kernel_rfl) (fun hall => ?_)
          repeat (first | go_big_quiet_skip | (go_big_quiet_want; first | (refine quiet_load1 _ _ _ rfl rfl ?_ ?_ ?_; (focus (intro _; simp; done)); (focus (first | assumption | omega | (simp; done) | (simp; omega))); apply Exists.intro; refine ⟨?_, ?_⟩; assumption; go_simp; go_big_quiet_on) | (refine quiet_load2 _ _ _ _ rfl rfl ?_ ?_ ?_ ?_; (focus (intro _; simp; done)); (focus (intro _; simp; done)); (focus (first | assumption | omega | (simp; done) | (simp; omega))); apply Exists.intro; apply Exists.intro; refine ⟨?_, ?_, ?_⟩; assumption; assumption; go_simp; go_big_quiet_on) | (refine quiet_load3 _ _ _ _ rfl rfl ?_ ?_ ?_ ?_; (focus (intro _; simp; done)); (focus (intro _; simp; done)); (focus (first | assumption | omega | (simp; done) | (simp; omega))); apply Exists.intro; apply Exists.intro; apply Exists.intro; refine ⟨?_, ?_, ?_, ?_⟩; assumption; assumption; assumption; go_simp; go_big_quiet_on) | (refine quiet_load4 _ _ _ _ rfl rfl ?_ ?_ ?_ ?_; (focus (intro _; simp; done)); (focus (intro _; simp; done)); (focus (first | assumption | omega | (simp; done) | (simp; omega))); apply Exists.intro; apply Exists.intro; apply Exists.intro; apply Exists.intro; refine ⟨?_, ?_, ?_, ?_, ?_⟩; assumption; assumption; assumption; assumption; go_simp; go_big_quiet_on) | (go_big_quiet_op; first | go_big_quiet_on | (apply Exists.intro; refine ⟨fun x hx => ?_, ?_⟩; (first | (with_reducible exact call_same hx (HWj.out _)) | exact call_same hx (HWj.out _)); go_big_quiet_on))))
          refine wpQuiet_nil ?_
          clear hall
          intro x9 hx9
          have z9x0 : x9.cell? ⟨b1, o1 + j, none⟩ = some (.int .i64 (E + 7)) := (hx9.cell (by first | assumption | omega)).trans r8x0
          have z9x1 : x9.cell? ⟨b1, o1 + q, none⟩ = some (.int .i64 E) := (hx9.cell (by first | assumption | omega)).trans r8x1
          have z9x2 : x9.cell? ⟨fb, fo + nn, none⟩ = some (.int .i64 (E + 7)) := (hx9.cell (by first | assumption | omega)).trans r8x2
          have zs9 : b1 < x9.heap.size := World.block_lt_of_cell? _ _ z9x0
          have zf9 : fb < x9.heap.size := World.block_lt_of_cell? _ _ z9x2
          have hB9 : Below w4.heap.size w4 x9 := bt hB8 hx9
          go_wp2_with fail
          refine wp_region_class (by kernel_rfl) (by kernel_rfl) (fun hall => ?_)
          repeat (first | go_big_quiet_skip | (go_big_quiet_want; first | (refine quiet_load1 _ _ _ rfl rfl ?_ ?_ ?_; (focus (intro _; simp; done)); (focus (first | assumption | omega | (simp; done) | (simp; omega))); apply Exists.intro; refine ⟨?_, ?_⟩; assumption; go_simp; go_big_quiet_on) | (refine quiet_load2 _ _ _ _ rfl rfl ?_ ?_ ?_ ?_; (focus (intro _; simp; done)); (focus (intro _; simp; done)); (focus (first | assumption | omega | (simp; done) | (simp; omega))); apply Exists.intro; apply Exists.intro; refine ⟨?_, ?_, ?_⟩; assumption; assumption; go_simp; go_big_quiet_on) | (refine quiet_load3 _ _ _ _ rfl rfl ?_ ?_ ?_ ?_; (focus (intro _; simp; done)); (focus (intro _; simp; done)); (focus (first | assumption | omega | (simp; done) | (simp; omega))); apply Exists.intro; apply Exists.intro; apply Exists.intro; refine ⟨?_, ?_, ?_, ?_⟩; assumption; assumption; assumption; go_simp; go_big_quiet_on) | (refine quiet_load4 _ _ _ _ rfl rfl ?_ ?_ ?_ ?_; (focus (intro _; simp; done)); (focus (intro _; simp; done)); (focus (first | assumption | omega | (simp; done) | (simp; omega))); apply Exists.intro; apply Exists.intro; apply Exists.intro; apply Exists.intro; refine ⟨?_, ?_, ?_, ?_, ?_⟩; assumption; assumption; assumption; assumption; go_simp; go_big_quiet_on) | (go_big_quiet_op; first | go_big_quiet_on | (apply Exists.intro; refine ⟨fun x hx => ?_, ?_⟩; (first | fail); go_big_quiet_on))))
          refine wpQuiet_nil ?_
          clear hall
          intro x11 hx11
          go_wp2_with fail
          go_roundw
          case rel => exact ⟨j + 1, by omega, by first | rfl | go_num | (simp; omega), congrArg (Value.int .i64) (by rw [HX.out, if_neg (by simpa using cS), List.length_append, ← HNN.out]; simp), bt hB (bt hB9 hx11)⟩
          case measure => simp [intOf]; omega
    · obtain rfl : j = n := by omega
      have HT : Hid (l.take j = l) := Lib.hid (List.take_of_length_le (by rw [HN.out]; exact Nat.le_refl _))
      have HLn : Hid ((Sb.freeOf S (l.take j)).length = nf) := Lib.hid (by rw [HT.out, ← HFL.out]; exact HNF.out)
      rw [HLn.out]
      clear hlt
      go_wp2_with fail
      refine (HK.out _).mono ?_
      rintro e w6 ⟨rfl, hb6⟩
      cases lp
      all_goals simp only [Bool.false_eq_true, if_false, if_true] at hlo hhi
      · have d1 : decide ((46 : Int) ≤ (nf : Int)) = true := decide_eq_true hlo
        have d2 : decide ((nf : Int) ≤ 51) = true := decide_eq_true hhi
        go_wp2_with fail
        refine (HW.out _ (Tab.below hT (by repeat (first | (with_reducible exact Below.refl _ _) | (with_reducible assumption) | (with_reducible refine bdrew ?_) | (with_reducible refine baa ?_ _) | (with_reducible refine bs ?_ (by first | exact Nat.le_refl _ | omega | (simp; done) | (simp; omega)) _) | (with_reducible refine bt ?_ (by with_reducible assumption))))) (Tab.below hL (by repeat (first | (with_reducible exact Below.refl _ _) | (with_reducible assumption) | (with_reducible refine bdrew ?_) | (with_reducible refine baa ?_ _) | (with_reducible refine bs ?_ (by first | exact Nat.le_refl _ | omega | (simp; done) | (simp; omega)) _) | (with_reducible refine bt ?_ (by with_reducible assumption))))) (Tab.below hF (by repeat (first | (with_reducible exact Below.refl _ _) | (with_reducible assumption) | (with_reducible refine bdrew ?_) | (with_reducible refine baa ?_ _) | (with_reducible refine bs ?_ (by first | exact Nat.le_refl _ | omega | (simp; done) | (simp; omega)) _) | (with_reducible refine bt ?_ (by with_reducible assumption)))))).mono ?_
        rintro e w7 ⟨rfl, hb7⟩
        have hB7 : Below w.heap.size w w7 := by repeat (first | (with_reducible exact Below.refl _ _) | (with_reducible assumption) | (with_reducible refine bdrew ?_) | (with_reducible refine baa ?_ _) | (with_reducible refine bs ?_ (by first | exact Nat.le_refl _ | omega | (simp; done) | (simp; omega)) _) | (with_reducible refine bt ?_ (by with_reducible assumption)))
        go_wp2_with fail
        go_ret
        exact ⟨rfl, hB7⟩
      · have d1 : decide ((49 : Int) ≤ (nf : Int)) = true := decide_eq_true hlo
        have d2 : decide ((nf : Int) ≤ 55) = true := decide_eq_true hhi
        go_wp2_with fail
        refine (HW.out _ (Tab.below hT (by repeat (first | (with_reducible exact Below.refl _ _) | (with_reducible assumption) | (with_reducible refine bdrew ?_) | (with_reducible refine baa ?_ _) | (with_reducible refine bs ?_ (by first | exact Nat.le_refl _ | omega | (simp; done) | (simp; omega)) _) | (with_reducible refine bt ?_ (by with_reducible assumption))))) (Tab.below hL (by repeat (first | (with_reducible exact Below.refl _ _) | (with_reducible assumption) | (with_reducible refine bdrew ?_) | (with_reducible refine baa ?_ _) | (with_reducible refine bs ?_ (by first | exact Nat.le_refl _ | omega | (simp; done) | (simp; omega)) _) | (with_reducible refine bt ?_ (by with_reducible assumption))))) (Tab.below hF (by repeat (first | (with_reducible exact Below.refl _ _) | (with_reducible assumption) | (with_reducible refine bdrew ?_) | (with_reducible refine baa ?_ _) | (with_reducible refine bs ?_ (by first | exact Nat.le_refl _ | omega | (simp; done) | (simp; omega)) _) | (with_reducible refine bt ?_ (by with_reducible assumption)))))).mono ?_
        rintro e w7 ⟨rfl, hb7⟩
        have hB7 : Below w.heap.size w w7 := by repeat (first | (with_reducible exact Below.refl _ _) | (with_reducible assumption) | (with_reducible refine bdrew ?_) | (with_reducible refine baa ?_ _) | (with_reducible refine bs ?_ (by first | exact Nat.le_refl _ | omega | (simp; done) | (simp; omega)) _) | (with_reducible refine bt ?_ (by with_reducible assumption)))
        go_wp2_with fail
        go_ret
        exact ⟨rfl, hB7⟩
end Go.Proofs.YtoofgalkchnpnaaGreatDoor
