/- Layer 24: TorahOnce. -/
import Derived.Test.YtaaaalbgjpjgoaaGreatDoorUW24
import Derived.Test.YtaaaalbgjpjgoaaGreatDoorUTQ
import Derived.Test.YtaaaalbgjpjgoaaGreatDoorUBB
namespace Go.Proofs.YtaaaalbgjpjgoaaGreatDoor
open Go.ChangeShapes Go.WideShapes Go.ChangeAt Go.RowKit Go.Lib Go.Sort Go.Shelf
set_option linter.unusedVariables false
set_option linter.unusedSimpArgs false
set_option maxRecDepth 100000
namespace Rd
theorem rr1 {x : Int} {j : Nat} (h : 1 ≤ x ∧ x ≤ 1 + 2 * (j : Int)) : 1 ≤ x + 1 ∧ x + 1 ≤ 1 + 2 * ((j + 1 : Nat) : Int) := by omega
theorem rr2 {x : Int} {j : Nat} (h : 1 ≤ x ∧ x ≤ 1 + 2 * (j : Int)) : 1 ≤ x + 2 ∧ x + 2 ≤ 1 + 2 * ((j + 1 : Nat) : Int) := by omega
/-- On the free days, and on these alone, each portion once, in order. -/
def once (F : List Int) : List Rd → Int → Nat → Bool
  | [], nx, k => decide (nx = 54) && decide (k = F.length)
  | x :: r, nx, k => if F[k]? = some x.2.2 then decide (x.1 = nx) && ((decide (x.2.1 = 1) || (decide (x.2.1 = 2) && decide (nx ∈ prL))) && once F r (nx + x.2.1) (k + 1)) else decide (x.1 = 0) && (decide (x.2.1 = 0) && once F r nx k)
theorem once_sh (F : List Int) (c : Int) : ∀ (L : List Rd) (nx : Int) (k : Nat), once (F.map fun d => c + d) (L.map (sh c)) nx k = once F L nx k
  | [], nx, k => by simp [once]
  | x :: r, nx, k => by
    rw [List.map_cons]
    unfold once
    have e : ((F.map fun d => c + d)[k]? = some (sh c x).2.2) ↔ (F[k]? = some x.2.2) := by
      rw [List.getElem?_map]
      rcases F[k]? with _ | d
      · simp
      · simp only [Option.map_some, Option.some.injEq, sh]
        omega
    simp only [e, once_sh F c r]
    rfl
def onceOk (i : Nat) (p : Bool) : Bool := once (Sb.free0 i p) (cyc0 i p) 1 0 && decide ((cyc0 i p).map (fun x => x.2.2) = Sb.sabs0 i p)
theorem once_all : ((List.range 14).all fun i => [false, true].all fun p => onceOk i p) = true := by decide +kernel
theorem once_at {i : Nat} (hi : i < 14) (p : Bool) : once (Sb.free0 i p) (cyc0 i p) 1 0 = true ∧ (cyc0 i p).map (fun x => x.2.2) = Sb.sabs0 i p := by
  have h := List.all_eq_true.1 once_all i (List.mem_range.2 hi)
  have h2 := List.all_eq_true.1 h p (by cases p <;> simp)
  simpa only [onceOk, Bool.and_eq_true, decide_eq_true_eq] using h2
end Rd
set_option maxHeartbeats 8000000 in
theorem TorahOnce_go (y u pl : Int) (n nf : Nat) (L : List Rd) (F S : List Int) (w : World) (hy : 0 ≤ y ∧ y ≤ 65535) (hu : 0 ≤ u ∧ u ≤ 255) (hT : Tab w 2 kevCells) (hL : Tab w 3 lenCells) (hF : Tab w 8 Fe.cells) (hPt : Tab w 1 Rd.prCells) (hl : L.length = n) (hs : S.length = n) (hf : F.length = nf) (hn : n ≤ 100) (hnf : nf ≤ 100) (hpl : u % 2 = pl)
    (HLS : Hid (∀ (j : Nat) x, L[j]? = some x → S[j]? = some x.2.2)) (HON : Hid (Rd.once F L 1 0 = true))
    (HA : Hid (∀ w : World, Tab w 2 kevCells → Tab w 3 lenCells → Tab w 8 Fe.cells → Calls Tryo.prog 14 #[.int .i64 (1 + y % 9998), .int .i64 pl] w fun e w' => ∃ v, e = .returned (.tuple #[v, .int .i64 0]) ∧ Rd.Own w' w.heap.size v L ∧ Below w.heap.size w w'))
    (HB : Hid (∀ w : World, Calls Tryo.prog 24 #[.int .i64 (1 + y % 9998), .int .i64 pl] w fun e w' => ∃ v, e = .returned (.tuple #[v, .int .i64 0]) ∧ Il.Own w' w.heap.size v F ∧ Below w.heap.size w w'))
    (HC : Hid (∀ w : World, Calls Tryo.prog 25 #[.int .i64 (1 + y % 9998), .int .i64 pl] w fun e w' => ∃ v, e = .returned (.tuple #[v, .int .i64 0]) ∧ Il.Own w' w.heap.size v S ∧ Below w.heap.size w w'))
    (HW : Hid (∀ W, Below w.heap.size w W → Calls Tryo.prog 18 #[] W fun e w' => e = .returned (.bool true) ∧ Below W.heap.size W w')) :
    Calls Tryo.prog 4 #[.int .u16 y, .int .u8 u] w fun e w' => e = .returned (.bool true) ∧ Below w.heap.size w w' := by
  obtain ⟨y1, y2⟩ := hy
  obtain ⟨t1, t2⟩ := hu
  have k0 : y.tmod 9998 = y % 9998 := Int.tmod_eq_emod_of_nonneg y1
  have k1 := Int.emod_nonneg y (show (9998 : Int) ≠ 0 by decide)
  have k2 := Int.emod_lt_of_pos y (show (0 : Int) < 9998 by decide)
  have l0 : u.tmod 2 = pl := (Int.tmod_eq_emod_of_nonneg t1).trans hpl
  have hpl2 : 0 ≤ pl ∧ pl ≤ 1 := by omega
  obtain ⟨q1, q2⟩ := hpl2
  have HPr := Lib.hid (fun (x : Int) (W : World) (hW : Below w.heap.size w W) => rd_Pair x W (Tab.below hPt hW))
  clear hpl hPt
  go_enter Tryo.func4, Tryz.ntmps4
  go_wp2_with fail
  refine (HA.out _ (Tab.below hT bel) (Tab.below hL bel) (Tab.below hF bel)).mono ?_
  rintro e w1 ⟨va, rfl, ho1, hb1⟩
  have hB1 : Below w.heap.size w w1 := bel
  go_wp2_with fail
  refine (HB.out _).mono ?_
  rintro e w2 ⟨vf, rfl, ho2, hb2⟩
  have hB2 : Below w1.heap.size w1 w2 := bel
  go_wp2_with fail
  refine (HC.out _).mono ?_
  rintro e w3 ⟨vs, rfl, ho3, hb3⟩
  have hB3 : Below w2.heap.size w2 w3 := bel
  have hBw3 : Below w.heap.size w w3 := bt (bt hB1 hB2) hB3
  have hra := (ho1.row.below hB2).below hB3
  have hrf := ho2.row.below hB3
  have hrs := ho3.row
  obtain ⟨pa, ca, rfl⟩ := hra.len
  obtain ⟨pf, cf, rfl⟩ := hrf.len
  obtain ⟨ps, cs, rfl⟩ := hrs.len
  rw [hl, hf, hs]
  have HNL := Lib.hid hl
  have HNF := Lib.hid hf
  have HNS := Lib.hid hs
  clear ho1 ho2 ho3 HA HB HC hl hf hs
  generalize hk : 1 + y % 9998 = kk at *
  go_wp2_with fail
  go_loopw [13, 14, 15] (fun a b i wr => ∃ (j k : Nat) (nx : Int), j ≤ n ∧ i = .int .i64 (j : Int) ∧ b = .int .i64 (k : Int) ∧ a = .int .i64 nx ∧ k ≤ nf ∧ (1 ≤ nx ∧ nx ≤ 1 + 2 * (j : Int)) ∧ Hid (Rd.once F (L.drop j) nx k = true) ∧ Below w3.heap.size w3 wr) (fun _ _ i _ => n - (intOf i).toNat)
  case atStart => exact ⟨0, 0, 1, Nat.zero_le _, rfl, rfl, rfl, Nat.zero_le _, by omega, HON, bel⟩
  case round =>
    obtain ⟨j, k, nx, hj, rfl, rfl, rfl, hkf, hnx, HO, hB⟩ := hrel
    obtain ⟨w9, rfl⟩ : ∃ x, x = wr := ⟨_, rfl⟩
    have hBw : Below w.heap.size w w9 := bt hBw3 hB
    by_cases hlt : j < n
    · obtain ⟨x, hx⟩ : ∃ x, L[j]? = some x := ⟨_, List.getElem?_eq_getElem (by rw [HNL.out]; exact hlt)⟩
      have hsx := HLS.out j x hx
      have hd : L.drop j = x :: L.drop (j + 1) := by
        have hk := (List.getElem?_eq_some_iff.1 hx).1
        rw [List.drop_eq_getElem_cons hk]
        congr 1
        exact (List.getElem?_eq_some_iff.1 hx).2
      have HO1 := HO.out
      rw [hd] at HO1
      unfold Rd.once at HO1
      obtain ⟨a1, a2, D⟩ := x
      dsimp only at HO1 hsx
      obtain ⟨ba, oa, cca, hp1, hca⟩ := (hra.below hB).at_some (by rw [HNL.out]; omega)
      obtain ⟨bs, os, ccs, hp2, hcs⟩ := (hrs.below hB).at_some (by rw [HNS.out]; omega)
      rw [HNL.out] at hp1
      rw [HNS.out] at hp2
      simp only [Value.slice.injEq] at hp1 hp2
      obtain ⟨rfl, _, rfl⟩ := hp1
      obtain ⟨rfl, _, rfl⟩ := hp2
      obtain ⟨x1, x2, x3⟩ := Rd.cells_at hca j (a1, a2, D) hx
      have z1 := hcs j D hsx
      have lx := World.block_lt_of_cell? _ _ x1
      have lz := World.block_lt_of_cell? _ _ z1
      dsimp only at lx lz x1 x2 x3 z1
      have j0 : (0 : Int) ≤ (j : Int) := by omega
      have j1 : (j : Int) < (n : Int) := by omega
      have f0 : (0 : Int) ≤ (k : Int) := by omega
      clear hca hcs hx hsx hd HO
      have HOO := Lib.hid HO1
      clear HO1
      go_wp2_with fail
      refine wp_region_class (by kernel_rfl) (by kernel_rfl) (fun hall => ?_)
      repeat (first | go_big_quiet_skip | (go_big_quiet_want; first | (refine quiet_load1 _ _ _ rfl rfl ?_ ?_ ?_; (focus (intro _; simp; done)); (focus (first | assumption | omega | (simp; done) | (simp; omega))); apply Exists.intro; refine ⟨?_, ?_⟩; assumption; go_simp; go_big_quiet_on) | (refine quiet_load2 _ _ _ _ rfl rfl ?_ ?_ ?_ ?_; (focus (intro _; simp; done)); (focus (intro _; simp; done)); (focus (first | assumption | omega | (simp; done) | (simp; omega))); apply Exists.intro; apply Exists.intro; refine ⟨?_, ?_, ?_⟩; assumption; assumption; go_simp; go_big_quiet_on) | (refine quiet_load3 _ _ _ _ rfl rfl ?_ ?_ ?_ ?_; (focus (intro _; simp; done)); (focus (intro _; simp; done)); (focus (first | assumption | omega | (simp; done) | (simp; omega))); apply Exists.intro; apply Exists.intro; apply Exists.intro; refine ⟨?_, ?_, ?_, ?_⟩; assumption; assumption; assumption; go_simp; go_big_quiet_on) | (refine quiet_load4 _ _ _ _ rfl rfl ?_ ?_ ?_ ?_; (focus (intro _; simp; done)); (focus (intro _; simp; done)); (focus (first | assumption | omega | (simp; done) | (simp; omega))); apply Exists.intro; apply Exists.intro; apply Exists.intro; apply Exists.intro; refine ⟨?_, ?_, ?_, ?_, ?_⟩; assumption; assumption; assumption; assumption; go_simp; go_big_quiet_on) | (go_big_quiet_op; first | go_big_quiet_on | (apply Exists.intro; refine ⟨fun x hx => ?_, ?_⟩; (first | fail); go_big_quiet_on))))
      refine wpQuiet_nil ?_
      clear hall
      intro x6 hx6
      have x1' := ((bcell hx6).1 _ _ lx).trans x1
      have x2' := ((bcell hx6).1 _ _ lx).trans x2
      have x3' := ((bcell hx6).1 _ _ lx).trans x3
      have z1' := ((bcell hx6).1 _ _ lz).trans z1
      have hz6 := hx6.size
      have lx' : ba < x6.heap.size := by omega
      have lz' : bs < x6.heap.size := by omega
      clear x1 x2 x3 z1 lx lz
      have x1 := x1'
      have x2 := x2'
      have x3 := x3'
      have z1 := z1'
      have lx := lx'
      have lz := lz'
      clear x1' x2' x3' z1' lx' lz'
      go_wp2_with fail
      by_cases hF : F[k]? = some D
      · have hkn : k < nf := by rw [← HNF.out]; exact (List.getElem?_eq_some_iff.1 hF).1
        have f1 : (k : Int) < (nf : Int) := by omega
        have f2 : ¬ (nf : Int) ≤ (k : Int) := by omega
        have f4 : ¬ nf ≤ k := by omega
        have f5 : decide (nf ≤ k) = false := decide_eq_false f4
        have f3 : decide ((nf : Int) ≤ (k : Int)) = false := decide_eq_false f2
        have hBx6 : Below w3.heap.size w3 x6 := bel
        obtain ⟨bf, of, ccf, hp3, hcf⟩ := (hrf.below hBx6).at_some (by rw [HNF.out]; omega)
        rw [HNF.out] at hp3
        simp only [Value.slice.injEq] at hp3
        obtain ⟨rfl, _, rfl⟩ := hp3
        have v1 := hcf k D hF
        have lv := World.block_lt_of_cell? _ _ v1
        dsimp only at lv v1
        have HO1 := HOO.out
        rw [if_pos hF] at HO1
        simp only [Bool.and_eq_true, decide_eq_true_eq, Bool.or_eq_true] at HO1
        obtain ⟨rfl, hm, hon⟩ := HO1
        have HON2 := Lib.hid hon
        have HMM := Lib.hid hm
        have e1 : wrap64 ((k : Int) + 1) = (k : Int) + 1 := IntWalk.wrap64_in _ ⟨by omega, by omega⟩
        clear hcf hF hon hm HOO
        refine wp_region_class (by kernel_rfl) (by kernel_rfl) (fun hall => ?_)
        repeat (first | go_big_quiet_skip | (go_big_quiet_want; first | (refine quiet_load1 _ _ _ rfl rfl ?_ ?_ ?_; (focus (intro _; simp; done)); (focus (first | assumption | omega | (simp; done) | (simp; omega))); apply Exists.intro; refine ⟨?_, ?_⟩; assumption; go_simp; go_big_quiet_on) | (refine quiet_load2 _ _ _ _ rfl rfl ?_ ?_ ?_ ?_; (focus (intro _; simp; done)); (focus (intro _; simp; done)); (focus (first | assumption | omega | (simp; done) | (simp; omega))); apply Exists.intro; apply Exists.intro; refine ⟨?_, ?_, ?_⟩; assumption; assumption; go_simp; go_big_quiet_on) | (refine quiet_load3 _ _ _ _ rfl rfl ?_ ?_ ?_ ?_; (focus (intro _; simp; done)); (focus (intro _; simp; done)); (focus (first | assumption | omega | (simp; done) | (simp; omega))); apply Exists.intro; apply Exists.intro; apply Exists.intro; refine ⟨?_, ?_, ?_, ?_⟩; assumption; assumption; assumption; go_simp; go_big_quiet_on) | (refine quiet_load4 _ _ _ _ rfl rfl ?_ ?_ ?_ ?_; (focus (intro _; simp; done)); (focus (intro _; simp; done)); (focus (first | assumption | omega | (simp; done) | (simp; omega))); apply Exists.intro; apply Exists.intro; apply Exists.intro; apply Exists.intro; refine ⟨?_, ?_, ?_, ?_, ?_⟩; assumption; assumption; assumption; assumption; go_simp; go_big_quiet_on) | (go_big_quiet_op; first | go_big_quiet_on | (apply Exists.intro; refine ⟨fun x hx => ?_, ?_⟩; (first | fail); go_big_quiet_on))))
        refine wpQuiet_nil ?_
        clear hall
        intro x7 hx7
        have x1' := ((bcell hx7).1 _ _ lx).trans x1
        have x2' := ((bcell hx7).1 _ _ lx).trans x2
        have x3' := ((bcell hx7).1 _ _ lx).trans x3
        have z1' := ((bcell hx7).1 _ _ lz).trans z1
        have v1' := ((bcell hx7).1 _ _ lv).trans v1
        have hz7 := hx7.size
        have lx' : ba < x7.heap.size := by omega
        have lz' : bs < x7.heap.size := by omega
        have lv' : bf < x7.heap.size := by omega
        clear x1 x2 x3 z1 v1 lx lz lv
        have x1 := x1'
        have x2 := x2'
        have x3 := x3'
        have z1 := z1'
        have v1 := v1'
        have lx := lx'
        have lz := lz'
        have lv := lv'
        clear x1' x2' x3' z1' v1' lx' lz' lv'
        clear f1 f2 f3 f4 f5 v1 lv z1 lz x3 hra hrf hrs hBx6
        rcases HMM.out with rfl | ⟨rfl, hpr⟩
        · have e3 : wrap64 (a1 + 1) = a1 + 1 := IntWalk.wrap64_in _ ⟨by omega, by omega⟩
          have RR0 := Lib.hid (Nat.succ_le_of_lt hlt)
          have RR1 := Lib.hid (Nat.succ_le_of_lt hkn)
          have RR2 := Lib.hid (Rd.rr1 hnx)
          clear HMM
          go_upto_region 17 with fail
          refine wp_region_seq (fun hall => ?_)
          repeat (first | go_big_quiet_skip | (go_big_quiet_want; first | (refine quiet_load1 _ _ _ rfl rfl ?_ ?_ ?_; (focus (intro _; simp; done)); (focus (first | assumption | omega | (simp; done) | (simp; omega))); apply Exists.intro; refine ⟨?_, ?_⟩; assumption; go_simp; go_big_quiet_on) | (refine quiet_load2 _ _ _ _ rfl rfl ?_ ?_ ?_ ?_; (focus (intro _; simp; done)); (focus (intro _; simp; done)); (focus (first | assumption | omega | (simp; done) | (simp; omega))); apply Exists.intro; apply Exists.intro; refine ⟨?_, ?_, ?_⟩; assumption; assumption; go_simp; go_big_quiet_on) | (refine quiet_load3 _ _ _ _ rfl rfl ?_ ?_ ?_ ?_; (focus (intro _; simp; done)); (focus (intro _; simp; done)); (focus (first | assumption | omega | (simp; done) | (simp; omega))); apply Exists.intro; apply Exists.intro; apply Exists.intro; refine ⟨?_, ?_, ?_, ?_⟩; assumption; assumption; assumption; go_simp; go_big_quiet_on) | (refine quiet_load4 _ _ _ _ rfl rfl ?_ ?_ ?_ ?_; (focus (intro _; simp; done)); (focus (intro _; simp; done)); (focus (first | assumption | omega | (simp; done) | (simp; omega))); apply Exists.intro; apply Exists.intro; apply Exists.intro; apply Exists.intro; refine ⟨?_, ?_, ?_, ?_, ?_⟩; assumption; assumption; assumption; assumption; go_simp; go_big_quiet_on) | (go_big_quiet_op; first | go_big_quiet_on | (apply Exists.intro; refine ⟨fun x hx => ?_, ?_⟩; (first | fail); go_big_quiet_on))))
          refine wpQuiet_nil ?_
          clear hall
          intro x8 hx8
          have x1' := ((bcell hx8).1 _ _ lx).trans x1
          have x2' := ((bcell hx8).1 _ _ lx).trans x2
          have hz8 := hx8.size
          have lx' : ba < x8.heap.size := by omega
          clear x1 x2 lx
          have x1 := x1'
          have x2 := x2'
          have lx := lx'
          clear x1' x2' lx'
          go_wp2_with fail
          go_roundw
          case rel => exact ⟨j + 1, k + 1, a1 + 1, RR0.out, by go_num, by go_num, rfl, RR1.out, RR2.out, HON2, bel⟩
          case measure => simp [intOf]; omega
        · have e3 : wrap64 (a1 + 2) = a1 + 2 := IntWalk.wrap64_in _ ⟨by omega, by omega⟩
          have RR0 := Lib.hid (Nat.succ_le_of_lt hlt)
          have RR1 := Lib.hid (Nat.succ_le_of_lt hkn)
          have RR2 := Lib.hid (Rd.rr2 hnx)
          have HPP := Lib.hid (HPr.out a1)
          rw [decide_eq_true hpr] at HPP
          clear hpr HMM
          go_upto_region 17 with fail
          refine wp_region_seq (fun hall => ?_)
          repeat (first | go_big_quiet_skip | (go_big_quiet_want; first | (refine quiet_load1 _ _ _ rfl rfl ?_ ?_ ?_; (focus (intro _; simp; done)); (focus (first | assumption | omega | (simp; done) | (simp; omega))); apply Exists.intro; refine ⟨?_, ?_⟩; assumption; go_simp; go_big_quiet_on) | (refine quiet_load2 _ _ _ _ rfl rfl ?_ ?_ ?_ ?_; (focus (intro _; simp; done)); (focus (intro _; simp; done)); (focus (first | assumption | omega | (simp; done) | (simp; omega))); apply Exists.intro; apply Exists.intro; refine ⟨?_, ?_, ?_⟩; assumption; assumption; go_simp; go_big_quiet_on) | (refine quiet_load3 _ _ _ _ rfl rfl ?_ ?_ ?_ ?_; (focus (intro _; simp; done)); (focus (intro _; simp; done)); (focus (first | assumption | omega | (simp; done) | (simp; omega))); apply Exists.intro; apply Exists.intro; apply Exists.intro; refine ⟨?_, ?_, ?_, ?_⟩; assumption; assumption; assumption; go_simp; go_big_quiet_on) | (refine quiet_load4 _ _ _ _ rfl rfl ?_ ?_ ?_ ?_; (focus (intro _; simp; done)); (focus (intro _; simp; done)); (focus (first | assumption | omega | (simp; done) | (simp; omega))); apply Exists.intro; apply Exists.intro; apply Exists.intro; apply Exists.intro; refine ⟨?_, ?_, ?_, ?_, ?_⟩; assumption; assumption; assumption; assumption; go_simp; go_big_quiet_on) | (go_big_quiet_op; first | go_big_quiet_on | (apply Exists.intro; refine ⟨fun x hx => ?_, ?_⟩; (first | (with_reducible exact call_same hx (HPP.out x (bt bel hx))) | exact call_same hx (HPP.out x (bt bel hx))); go_big_quiet_on))))
          refine wpQuiet_nil ?_
          clear hall
          intro x8 hx8
          have x1' := ((bcell hx8).1 _ _ lx).trans x1
          have x2' := ((bcell hx8).1 _ _ lx).trans x2
          have hz8 := hx8.size
          have lx' : ba < x8.heap.size := by omega
          clear x1 x2 lx
          have x1 := x1'
          have x2 := x2'
          have lx := lx'
          clear x1' x2' lx'
          go_wp2_with fail
          go_roundw
          case rel => exact ⟨j + 1, k + 1, a1 + 2, RR0.out, by go_num, by go_num, rfl, RR1.out, RR2.out, HON2, bel⟩
          case measure => simp [intOf]; omega
      · have HO1 := HOO.out
        rw [if_neg hF] at HO1
        simp only [Bool.and_eq_true, decide_eq_true_eq] at HO1
        obtain ⟨rfl, rfl, hon⟩ := HO1
        have HON2 := Lib.hid hon
        clear hon HOO
        by_cases hkn : k < nf
        · obtain ⟨E, hE⟩ : ∃ E, F[k]? = some E := ⟨_, List.getElem?_eq_getElem (by rw [HNF.out]; exact hkn)⟩
          have hne : ¬ E = D := fun e => hF (by rw [hE, e])
          have hne2 : decide (E = D) = false := decide_eq_false hne
          have f1 : (k : Int) < (nf : Int) := by omega
          have f2 : ¬ (nf : Int) ≤ (k : Int) := by omega
          have f4 : ¬ nf ≤ k := by omega
          have f5 : decide (nf ≤ k) = false := decide_eq_false f4
          have f3 : decide ((nf : Int) ≤ (k : Int)) = false := decide_eq_false f2
          have hBx6 : Below w3.heap.size w3 x6 := bel
          obtain ⟨bf, of, ccf, hp3, hcf⟩ := (hrf.below hBx6).at_some (by rw [HNF.out]; omega)
          rw [HNF.out] at hp3
          simp only [Value.slice.injEq] at hp3
          obtain ⟨rfl, _, rfl⟩ := hp3
          have v1 := hcf k E hE
          have lv := World.block_lt_of_cell? _ _ v1
          dsimp only at lv v1
          clear hcf hF hE
          refine wp_region_class (by kernel_rfl) (by kernel_rfl) (fun hall => ?_)
          repeat (first | go_big_quiet_skip | (go_big_quiet_want; first | (refine quiet_load1 _ _ _ rfl rfl ?_ ?_ ?_; (focus (intro _; simp; done)); (focus (first | assumption | omega | (simp; done) | (simp; omega))); apply Exists.intro; refine ⟨?_, ?_⟩; assumption; go_simp; go_big_quiet_on) | (refine quiet_load2 _ _ _ _ rfl rfl ?_ ?_ ?_ ?_; (focus (intro _; simp; done)); (focus (intro _; simp; done)); (focus (first | assumption | omega | (simp; done) | (simp; omega))); apply Exists.intro; apply Exists.intro; refine ⟨?_, ?_, ?_⟩; assumption; assumption; go_simp; go_big_quiet_on) | (refine quiet_load3 _ _ _ _ rfl rfl ?_ ?_ ?_ ?_; (focus (intro _; simp; done)); (focus (intro _; simp; done)); (focus (first | assumption | omega | (simp; done) | (simp; omega))); apply Exists.intro; apply Exists.intro; apply Exists.intro; refine ⟨?_, ?_, ?_, ?_⟩; assumption; assumption; assumption; go_simp; go_big_quiet_on) | (refine quiet_load4 _ _ _ _ rfl rfl ?_ ?_ ?_ ?_; (focus (intro _; simp; done)); (focus (intro _; simp; done)); (focus (first | assumption | omega | (simp; done) | (simp; omega))); apply Exists.intro; apply Exists.intro; apply Exists.intro; apply Exists.intro; refine ⟨?_, ?_, ?_, ?_, ?_⟩; assumption; assumption; assumption; assumption; go_simp; go_big_quiet_on) | (go_big_quiet_op; first | go_big_quiet_on | (apply Exists.intro; refine ⟨fun x hx => ?_, ?_⟩; (first | fail); go_big_quiet_on))))
          refine wpQuiet_nil ?_
          clear hall
          intro x7 hx7
          have x1' := ((bcell hx7).1 _ _ lx).trans x1
          have x2' := ((bcell hx7).1 _ _ lx).trans x2
          have x3' := ((bcell hx7).1 _ _ lx).trans x3
          have z1' := ((bcell hx7).1 _ _ lz).trans z1
          have v1' := ((bcell hx7).1 _ _ lv).trans v1
          have hz7 := hx7.size
          have lx' : ba < x7.heap.size := by omega
          have lz' : bs < x7.heap.size := by omega
          have lv' : bf < x7.heap.size := by omega
          clear x1 x2 x3 z1 v1 lx lz lv
          have x1 := x1'
          have x2 := x2'
          have x3 := x3'
          have z1 := z1'
          have v1 := v1'
          have lx := lx'
          have lz := lz'
          have lv := lv'
          clear x1' x2' x3' z1' v1' lx' lz' lv'
          go_wp2_with fail
          go_roundw
          case rel => exact ⟨j + 1, k, nx, by omega, by go_num, rfl, rfl, by omega, by omega, HON2, bel⟩
          case measure => simp [intOf]; omega
        · have f2 : (nf : Int) ≤ (k : Int) := by omega
          have f4 : nf ≤ k := by omega
          have f5 : decide (nf ≤ k) = true := decide_eq_true f4
          have f3 : decide ((nf : Int) ≤ (k : Int)) = true := decide_eq_true f2
          clear hF
          refine wp_region_class (by kernel_rfl) (by kernel_rfl) (fun hall => ?_)
          repeat (first | go_big_quiet_skip | (go_big_quiet_want; first | (refine quiet_load1 _ _ _ rfl rfl ?_ ?_ ?_; (focus (intro _; simp; done)); (focus (first | assumption | omega | (simp; done) | (simp; omega))); apply Exists.intro; refine ⟨?_, ?_⟩; assumption; go_simp; go_big_quiet_on) | (refine quiet_load2 _ _ _ _ rfl rfl ?_ ?_ ?_ ?_; (focus (intro _; simp; done)); (focus (intro _; simp; done)); (focus (first | assumption | omega | (simp; done) | (simp; omega))); apply Exists.intro; apply Exists.intro; refine ⟨?_, ?_, ?_⟩; assumption; assumption; go_simp; go_big_quiet_on) | (refine quiet_load3 _ _ _ _ rfl rfl ?_ ?_ ?_ ?_; (focus (intro _; simp; done)); (focus (intro _; simp; done)); (focus (first | assumption | omega | (simp; done) | (simp; omega))); apply Exists.intro; apply Exists.intro; apply Exists.intro; refine ⟨?_, ?_, ?_, ?_⟩; assumption; assumption; assumption; go_simp; go_big_quiet_on) | (refine quiet_load4 _ _ _ _ rfl rfl ?_ ?_ ?_ ?_; (focus (intro _; simp; done)); (focus (intro _; simp; done)); (focus (first | assumption | omega | (simp; done) | (simp; omega))); apply Exists.intro; apply Exists.intro; apply Exists.intro; apply Exists.intro; refine ⟨?_, ?_, ?_, ?_, ?_⟩; assumption; assumption; assumption; assumption; go_simp; go_big_quiet_on) | (go_big_quiet_op; first | go_big_quiet_on | (apply Exists.intro; refine ⟨fun x hx => ?_, ?_⟩; (first | fail); go_big_quiet_on))))
          refine wpQuiet_nil ?_
          clear hall
          intro x7 hx7
          have x1' := ((bcell hx7).1 _ _ lx).trans x1
          have x2' := ((bcell hx7).1 _ _ lx).trans x2
          have x3' := ((bcell hx7).1 _ _ lx).trans x3
          have z1' := ((bcell hx7).1 _ _ lz).trans z1
          have hz7 := hx7.size
          have lx' : ba < x7.heap.size := by omega
          have lz' : bs < x7.heap.size := by omega
          clear x1 x2 x3 z1 lx lz
          have x1 := x1'
          have x2 := x2'
          have x3 := x3'
          have z1 := z1'
          have lx := lx'
          have lz := lz'
          clear x1' x2' x3' z1' lx' lz'
          go_wp2_with fail
          go_roundw
          case rel => exact ⟨j + 1, k, nx, by omega, by go_num, rfl, rfl, by omega, by omega, HON2, bel⟩
          case measure => simp [intOf]; omega
    · obtain rfl : j = n := by omega
      have h9 := HO.out
      rw [List.drop_eq_nil_of_le (by rw [HNL.out]; exact Nat.le_refl _)] at h9
      unfold Rd.once at h9
      simp only [Bool.and_eq_true, decide_eq_true_eq] at h9
      obtain ⟨rfl, h10⟩ := h9
      rw [HNF.out] at h10
      subst h10
      clear hlt HO
      go_wp2_with fail
      refine (HW.out _ bel).mono ?_
      rintro e w5 ⟨rfl, hb5⟩
      go_wp2_with fail
      go_ret
      refine ⟨rfl, ?_⟩
      exact bel
theorem TorahOnce_walk (y u : Int) (hy : 0 ≤ y ∧ y ≤ 65535) (hu : 0 ≤ u ∧ u ≤ 255) (w : World) (hT : Tab w 2 kevCells) (hL : Tab w 3 lenCells) (hF : Tab w 8 Fe.cells) (hP : Tab w 1 Rd.prCells) (hN : Tab w 0 Rd.nmCells) :
    Calls Tryo.prog 4 #[.int .u16 y, .int .u8 u] w fun e w' => e = .returned (.bool true) ∧ Below w.heap.size w w' := by
  have k1 := Int.emod_nonneg y (show (9998 : Int) ≠ 0 by decide)
  have k2 := Int.emod_lt_of_pos y (show (0 : Int) < 9998 by decide)
  obtain ⟨i, h⟩ := Yr.is_some (1 + y % 9998) (by omega) (by omega)
  obtain ⟨i2, h2⟩ := Yr.is_some (1 + y % 9998 + 1) (by omega) (by omega)
  obtain ⟨p, hp⟩ : ∃ p : Bool, u % 2 = if p then 1 else 0 := by
    rcases (show u % 2 = 0 ∨ u % 2 = 1 by omega) with e | e
    · exact ⟨false, by rw [e]; rfl⟩
    · exact ⟨true, by rw [e]; rfl⟩
  obtain ⟨o1, o2⟩ := Rd.once_at h.2.2.1 p
  have hso := Rd.sabs_off p h h2
  have hfo := Sb.free_off p h h2
  have hcn := Sb.cnt_bd h.2.2.1 p
  have hln : (Rd.cyc0 i p).length = (Sb.sabs0 i p).length := by rw [← o2, List.length_map]
  refine TorahOnce_go y u (if p then 1 else 0) (Rd.cyc0 i p).length (Sb.free0 i p).length ((Rd.cyc0 i p).map (Rd.sh (Cal.first (1 + y % 9998) - kevB i))) (Sb.free (1 + y % 9998) i i2 p) (Sb.sabs (1 + y % 9998) p) w hy hu hT hL hF hP (List.length_map ..) (by rw [hso, List.length_map, hln]) (by rw [hfo, List.length_map]) (Rd.len_at h.2.2.1 p) (by split at hcn <;> omega) hp (Lib.hid fun j x hx => ?_) (Lib.hid (by rw [hfo, Rd.once_sh]; exact o1))
    (Lib.hid fun w hT hL hF => rd_Cycle _ i i2 p w h h2 hT hL hF) (Lib.hid fun w => ref23_Free _ i i2 p w h h2) (Lib.hid fun w => ref23_All _ i i2 p w h h2)
    (Lib.hid fun W hW => awake24 W (Tab.below hT hW) (Tab.below hL hW) (Tab.below hF hW) (Tab.below hP hW) (Tab.below hN hW))
  rw [List.getElem?_map] at hx
  rcases ea : (Rd.cyc0 i p)[j]? with _ | a0
  · rw [ea] at hx; cases hx
  rw [ea] at hx
  simp only [Option.map_some, Option.some.injEq] at hx
  subst hx
  rw [hso, ← o2, List.map_map, List.getElem?_map, ea]
  rfl
end Go.Proofs.YtaaaalbgjpjgoaaGreatDoor
