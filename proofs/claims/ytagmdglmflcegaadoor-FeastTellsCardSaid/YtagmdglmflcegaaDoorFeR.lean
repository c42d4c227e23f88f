/- Layer 19: the document's feasts of a year. -/
import Derived.Test.YtagmdglmflcegaaDoorFe
namespace Go.Proofs.YtagmdglmflcegaaDoor
open Go.ChangeShapes Go.WideShapes Go.ChangeAt Go.RowKit Go.Lib Go.Sort Go.Shelf
set_option linter.unusedVariables false
set_option maxRecDepth 100000
theorem grown_more {w a b : World} {r r2 : Option Nat} (h1 : w.grownBy a r) (h2 : a.grownBy b r2) (hr : r2 = none ∨ r2 = r ∨ ∃ k, r2 = some k ∧ w.heap.size ≤ k) : w.grownBy b r :=
  ⟨h2.os.trans h1.os, h2.tape.trans h1.tape, h2.output.trans h1.output, Nat.le_trans h1.size h2.size, fun k hk hne => (h2.block k (Nat.lt_of_lt_of_le hk h1.size) (by
    rcases hr with rfl | rfl | ⟨q, rfl, hq⟩
    · simp
    · exact hne
    · intro e
      have := Option.some.inj e
      omega)).trans (h1.block k hk hne)⟩
theorem ints_at (W : World) (ds : List Int) (t : TypeId) : ∀ j d, ds[j]? = some d → (W.alloc (.cells (ds.map (Value.int .i64)).toArray t)).cell? ⟨W.heap.size, j, none⟩ = some (.int .i64 d) := fun j d h => by
  refine (World.cell?_alloc_mark W _ _ _ j).trans ?_
  simp [h]
namespace Fe
abbrev Key := Int × Int × Bool × Int × Int
def evk (dv : Int → Bool → Int → Int) (k : Key) : Int × Int := (k.1, dv k.2.1 k.2.2.1 k.2.2.2.1 + k.2.2.2.2)
def dk (kind num : Int) (ds : List Int) : List Key := ds.map fun d => (kind, num, false, d, 0)
end Fe
set_option maxHeartbeats 4000000 in
theorem ref19_days (y kind num : Int) (ds : List Int) (n g B : Nat) (K : List Fe.Key) (V : Value) (w : World) (hy : I64 y) (hn : ds.length = n) (hlen : K.length + n ≤ 1000) (hB : B ≤ w.heap.size)
    (HO : Ev.Own w B V (K.map (Fe.evk (D10.dayV y)))) (HD : Hid (∀ j d, ds[j]? = some d → w.cell? ⟨g, j, none⟩ = some (.int .i64 d))) (hg : g < w.heap.size) (hne : V.ownBlock ≠ some g) :
    Calls Tryd.prog 47 #[V, .int .i64 kind, .int .i64 y, .int .i64 num, .slice (some ⟨g, 0, none⟩) n n] w fun e w' => ∃ v, e = .returned v ∧ Ev.Own w' B v ((K ++ Fe.dk kind num ds).map (Fe.evk (D10.dayV y))) ∧ w.grownBy w' V.ownBlock := by
  obtain ⟨i0, ih, iz0, iz1, iz2⟩ := info_parts A_infoEvent
  have HDy := Lib.hid (fun d w => ref19_Day y num d w hy)
  go_enter Tryd.func47, Tryd.ntmps47
  go_wp2_with fail
  go_loopw [0, 11] (fun v i wr => ∃ (j : Nat) (L : List (Int × Int)), j ≤ n ∧ i = .int .i64 (j : Int) ∧ Hid (L = (K ++ Fe.dk kind num (ds.take j)).map (Fe.evk (D10.dayV y))) ∧ L.length ≤ 1000 ∧ L.length + (n - j) ≤ 1000 ∧ Ev.Own wr B v L ∧ w.grownBy wr V.ownBlock ∧ Hid (v.ownBlock = V.ownBlock ∨ ∃ k, v.ownBlock = some k ∧ w.heap.size ≤ k)) (fun _ i _ => n - (intOf i).toNat)
  case atStart => exact ⟨0, _, Nat.zero_le _, rfl, Lib.hid (by simp [Fe.dk]), by simp; omega, by simp; omega, HO, ⟨rfl, rfl, rfl, Nat.le_refl _, fun _ _ _ => rfl⟩, Lib.hid (.inl rfl)⟩
  case round =>
    obtain ⟨j, L, hj, rfl, HL, hl1, hl2, HO1, hgr, HV⟩ := hrel
    obtain ⟨w1, rfl⟩ : ∃ x, x = wr := ⟨_, rfl⟩
    have hsz := hgr.size
    by_cases hlt : j < n
    · obtain ⟨d, hd⟩ : ∃ d, ds[j]? = some d := ⟨_, List.getElem?_eq_getElem (by omega)⟩
      have c1 : w1.cell? ⟨g, j, none⟩ = some (.int .i64 d) := (hgr.cell (HD.out j d hd) (fun e => hne e.symm))
      have HE : Hid ((K ++ Fe.dk kind num (ds.take (j + 1))).map (Fe.evk (D10.dayV y)) = L ++ [(kind, D10.dayV y num false d)]) := Lib.hid (by
        rw [HL.out, List.take_add_one, hd]
        simp [Fe.dk, Fe.evk])
      have HC := Lib.hid (fun w => HDy.out d w)
      have j0 : (0 : Int) ≤ (j : Int) := by omega
      have j1 : (j : Int) < (n : Int) := by omega
      clear hd
      generalize D10.dayV y num false d = D at *
      go_wp2_with fail
      refine (HC.out _).mono ?_
      rintro e w2 ⟨rfl, hb2⟩
      have HO2 := HO1.below hb2
      have hs2 := hb2.size
      go_wp2_with (at_builtin; refine wpList_append_own_at _ rfl (.tmp 18) (.tmp 28) 22 rfl B 38 i0 (.agg #[.int .i64 0, .int .i64 0]) 2 16 Tryd.underlying22 ih iz0 iz1 iz2 rfl (by decide) _ L.length (Ev.flat L) rfl (World.ownsRow.alloc HO2 _) ⟨w2.heap.size, 0, none⟩ 1 1 [.int .i64 _, .int .i64 _] rfl rfl (ev_news _ _ _) (ev_one _ _) (by simp only [maxLen]; omega) (by omega) (by first | assumption | (simp; omega) | omega) ?_; intro v3 w3 hown3 hgrow3 _ hblk3)
      go_roundw
      case rel =>
        have hgr2 : w.grownBy w2 V.ownBlock := grown_more hgr (Ev.grown_of hb2) (.inl rfl)
        have hgr3 : w.grownBy (w2.alloc (.cells #[.int .i64 kind, .int .i64 D] 38)) V.ownBlock := grown_more hgr2 (World.grownBy_alloc w2 _ none) (.inl rfl)
        refine ⟨j + 1, L ++ [(kind, D)], by omega, by go_num, Lib.hid HE.out.symm, by simp; omega, by simp; omega, Ev.own_snoc rfl hown3, grown_more hgr3 hgrow3 (.inr HV.out), Lib.hid ?_⟩
        rcases hblk3 with e | e
        · rw [e]; exact HV.out
        · exact .inr ⟨_, e, by simp; omega⟩
      case measure => simp [intOf]; omega
    · obtain rfl : j = n := by omega
      have HF : Hid (L = (K ++ Fe.dk kind num ds).map (Fe.evk (D10.dayV y))) := Lib.hid (by rw [HL.out, List.take_of_length_le (by omega)])
      clear hlt
      go_wp2_with fail
      go_ret
      exact ⟨_, rfl, by rw [← HF.out]; exact HO1, hgr⟩
set_option maxHeartbeats 1000000 in
theorem ref19_Place_0 (w : World) : Calls Tryd.prog 45 #[.int .i64 0] w fun e w' => e = .returned (.bool true) ∧ w = w' := by
  go_enter Tryd.func45, Tryd.ntmps45
  go_wp2_with fail
  go_ret
  exact ⟨rfl, rfl⟩
set_option maxHeartbeats 1000000 in
theorem ref19_Place_1 (w : World) : Calls Tryd.prog 45 #[.int .i64 1] w fun e w' => e = .returned (.bool true) ∧ w = w' := by
  go_enter Tryd.func45, Tryd.ntmps45
  go_wp2_with fail
  go_ret
  exact ⟨rfl, rfl⟩
set_option maxHeartbeats 1000000 in
theorem ref19_Place_no (p : Int) (w : World) (h0 : (p == 0) = false) (h1 : (p == 1) = false) : Calls Tryd.prog 45 #[.int .i64 p] w fun e w' => e = .returned (.bool false) ∧ w = w' := by
  go_enter Tryd.func45, Tryd.ntmps45
  go_wp2_with fail
  go_ret
  exact ⟨rfl, rfl⟩
end Go.Proofs.YtagmdglmflcegaaDoor
