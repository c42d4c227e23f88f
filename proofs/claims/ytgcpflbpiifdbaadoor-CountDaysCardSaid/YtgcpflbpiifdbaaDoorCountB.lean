/- Layer 27: count.Between. -/
import Derived.Test.YtgcpflbpiifdbaaDoorCountS
namespace Go.Proofs.YtgcpflbpiifdbaaDoor
open Go.ChangeShapes Go.WideShapes Go.ChangeAt Go.RowKit
set_option linter.unusedVariables false
set_option maxRecDepth 100000
attribute [local go_sem] Oper.semAt_some
set_option maxHeartbeats 8000000 in
theorem count_Between_go (s : Nat → Dt) (N : Nat) (hN : N ≤ 4000000) (bb : Dt) (mo la lb : Int) (w : World) (hT : Tab w 1 kevCells) (hL : Tab w 0 lenCells) (m : Nat) (hm : (m : Int) = mo) (hm2 : m ≤ 3000)
    (HC : Hid (∀ w : World, Tab w 1 kevCells → Tab w 0 lenCells → Calls Tryd.prog 9 #[.agg #[.int .i64 (s 0).1, .int .i64 (s 0).2.1, .bool (s 0).2.2.1, .int .i64 (s 0).2.2.2]] w fun e w' => e = .returned (.tuple #[.int .i64 la, .int .i64 0]) ∧ Below w.heap.size w w')) (HD : Hid (∀ w : World, Tab w 1 kevCells → Tab w 0 lenCells → Calls Tryd.prog 9 #[.agg #[.int .i64 (bb).1, .int .i64 (bb).2.1, .bool (bb).2.2.1, .int .i64 (bb).2.2.2]] w fun e w' => e = .returned (.tuple #[.int .i64 lb, .int .i64 0]) ∧ Below w.heap.size w w'))
    (HS : Hid (∀ k, k < N → ∀ W : World, Tab W 1 kevCells → Tab W 0 lenCells → Calls Tryd.prog 10 #[.agg #[.int .i64 (s k).1, .int .i64 (s k).2.1, .bool (s k).2.2.1, .int .i64 (s k).2.2.2]] W fun e w' => e = .returned (.tuple #[.agg #[.int .i64 (s (k + 1)).1, .int .i64 (s (k + 1)).2.1, .bool (s (k + 1)).2.2.1, .int .i64 (s (k + 1)).2.2.2], .int .i64 0]) ∧ Below W.heap.size W w'))
    (HE : Hid (∀ W : World, Tab W 1 kevCells → Tab W 0 lenCells → Calls Tryd.prog 10 #[.agg #[.int .i64 (s N).1, .int .i64 (s N).2.1, .bool (s N).2.2.1, .int .i64 (s N).2.2.2]] W fun e w' => e = .returned (.tuple #[.agg #[.int .i64 0, .int .i64 0, .bool false, .int .i64 0], .int .i64 2]) ∧ Below W.heap.size W w'))
    (R er : Int) (hR : (∀ q : Nat, q ≤ N → q ≤ m → s q = bb → R = (q : Int) ∧ er = 0) ∧ ((∀ q : Nat, q ≤ N → q ≤ m → ¬ s q = bb) → R = 0 ∧ er = 2)) :
    Calls Tryd.prog 8 #[.agg #[.int .i64 (s 0).1, .int .i64 (s 0).2.1, .bool (s 0).2.2.1, .int .i64 (s 0).2.2.2], .agg #[.int .i64 (bb).1, .int .i64 (bb).2.1, .bool (bb).2.2.1, .int .i64 (bb).2.2.2], .int .i64 mo] w fun e w' => e = .returned (.tuple #[.int .i64 R, .int .i64 er]) ∧ Below w.heap.size w w' := by
  refine (callsIn_wide (n := 3)).1 ?_
  refine callsIn_of_wp_marks Tryd.func8 rfl trivial ?_ rfl
  simp only [Tryd.ntmps8, List.size_toArray, List.length_cons, List.length_nil, Nat.reduceAdd, Nat.reduceSub, Array.replicate_succ, Array.replicate_zero, List.push_toArray, List.append_toArray, List.nil_append, List.cons_append]
  gi_wp2
  refine ⟨trivial, (callsIn_wide.2 (HC.out _ (Tab.below hT (by repeat (first | (with_reducible exact Below.refl _ _) | (with_reducible assumption) | (with_reducible refine bdrew ?_) | (with_reducible refine baa ?_ _) | (with_reducible refine bs ?_ (by first | exact Nat.le_refl _ | omega | (simp; done) | (simp; omega)) _) | (with_reducible refine bt ?_ (by with_reducible assumption))))) (Tab.below hL (by repeat (first | (with_reducible exact Below.refl _ _) | (with_reducible assumption) | (with_reducible refine bdrew ?_) | (with_reducible refine baa ?_ _) | (with_reducible refine bs ?_ (by first | exact Nat.le_refl _ | omega | (simp; done) | (simp; omega)) _) | (with_reducible refine bt ?_ (by with_reducible assumption))))))).mono ?_⟩
  rintro e w1 ⟨rfl, hb1⟩
  obtain ⟨hc1, hf1⟩ := bcell hb1
  have hz1 := hb1.size
  simp at hz1
  have Aa0 : w1.cell? ⟨w.heap.size, 0, none⟩ = some (.int .i64 (s 0).1) := (hc1 _ _ (by first | (simp; done) | (simp; omega))).trans (by first | (simp [go_sem]; done) | (simp [go_sem, *]; done))
  have Aa1 : w1.cell? ⟨w.heap.size, 1, none⟩ = some (.int .i64 (s 0).2.1) := (hc1 _ _ (by first | (simp; done) | (simp; omega))).trans (by first | (simp [go_sem]; done) | (simp [go_sem, *]; done))
  have Aa2 : w1.cell? ⟨w.heap.size, 2, none⟩ = some (.bool (s 0).2.2.1) := (hc1 _ _ (by first | (simp; done) | (simp; omega))).trans (by first | (simp [go_sem]; done) | (simp [go_sem, *]; done))
  have Aa3 : w1.cell? ⟨w.heap.size, 3, none⟩ = some (.int .i64 (s 0).2.2.2) := (hc1 _ _ (by first | (simp; done) | (simp; omega))).trans (by first | (simp [go_sem]; done) | (simp [go_sem, *]; done))
  have Ab0 : w1.cell? ⟨w.heap.size + 1, 0, none⟩ = some (.int .i64 (bb).1) := (hc1 _ _ (by first | (simp; done) | (simp; omega))).trans (by first | (simp [go_sem]; done) | (simp [go_sem, *]; done))
  have Ab1 : w1.cell? ⟨w.heap.size + 1, 1, none⟩ = some (.int .i64 (bb).2.1) := (hc1 _ _ (by first | (simp; done) | (simp; omega))).trans (by first | (simp [go_sem]; done) | (simp [go_sem, *]; done))
  have Ab2 : w1.cell? ⟨w.heap.size + 1, 2, none⟩ = some (.bool (bb).2.2.1) := (hc1 _ _ (by first | (simp; done) | (simp; omega))).trans (by first | (simp [go_sem]; done) | (simp [go_sem, *]; done))
  have Ab3 : w1.cell? ⟨w.heap.size + 1, 3, none⟩ = some (.int .i64 (bb).2.2.2) := (hc1 _ _ (by first | (simp; done) | (simp; omega))).trans (by first | (simp [go_sem]; done) | (simp [go_sem, *]; done))
  have Am0 : w1.cell? ⟨w.heap.size + 2, 0, none⟩ = some (.int .i64 mo) := (hc1 _ _ (by first | (simp; done) | (simp; omega))).trans (by first | (simp [go_sem]; done) | (simp [go_sem, *]; done))
  have Ar0 : w1.cell? ⟨w.heap.size + 3, 0, none⟩ = some (.int .i64 0) := (hc1 _ _ (by first | (simp; done) | (simp; omega))).trans (by first | (simp [go_sem]; done) | (simp [go_sem, *]; done))
  have Ae0 : w1.cell? ⟨w.heap.size + 4, 0, none⟩ = some (.int .i64 0) := (hc1 _ _ (by first | (simp; done) | (simp; omega))).trans (by first | (simp [go_sem]; done) | (simp [go_sem, *]; done))
  have Afr : w1.frozen? ⟨w.heap.size + 3, 0, none⟩ = false := (hf1 _ _ (by first | (simp; done) | (simp; omega))).trans (by first | (simp [go_sem]; done) | (simp [go_sem, *]; done))
  have Afe : w1.frozen? ⟨w.heap.size + 4, 0, none⟩ = false := (hf1 _ _ (by first | (simp; done) | (simp; omega))).trans (by first | (simp [go_sem]; done) | (simp [go_sem, *]; done))
  have hB1 : Below w.heap.size w w1 := by repeat (first | (with_reducible exact Below.refl _ _) | (with_reducible assumption) | (with_reducible refine bdrew ?_) | (with_reducible refine baa ?_ _) | (with_reducible refine bs ?_ (by first | exact Nat.le_refl _ | omega | (simp; done) | (simp; omega)) _) | (with_reducible refine bt ?_ (by with_reducible assumption)))
  have lw10 : w.heap.size < w1.heap.size := by omega
  have lw11 : w.heap.size + 1 < w1.heap.size := by omega
  have lw12 : w.heap.size + 2 < w1.heap.size := by omega
  have lw13 : w.heap.size + 3 < w1.heap.size := by omega
  have lw14 : w.heap.size + 4 < w1.heap.size := by omega
  clear hb1 hc1 hf1
  gi_wp2
  refine ⟨trivial, (callsIn_wide.2 (HD.out _ (Tab.below hT hB1) (Tab.below hL hB1))).mono ?_⟩
  rintro e w2 ⟨rfl, hb2⟩
  have hz2 := hb2.size
  have Ba0 := (hb2.cell (p := ⟨w.heap.size, 0, none⟩) lw10).trans Aa0
  have Ba1 := (hb2.cell (p := ⟨w.heap.size, 1, none⟩) lw10).trans Aa1
  have Ba2 := (hb2.cell (p := ⟨w.heap.size, 2, none⟩) lw10).trans Aa2
  have Ba3 := (hb2.cell (p := ⟨w.heap.size, 3, none⟩) lw10).trans Aa3
  have Bb0 := (hb2.cell (p := ⟨w.heap.size + 1, 0, none⟩) lw11).trans Ab0
  have Bb1 := (hb2.cell (p := ⟨w.heap.size + 1, 1, none⟩) lw11).trans Ab1
  have Bb2 := (hb2.cell (p := ⟨w.heap.size + 1, 2, none⟩) lw11).trans Ab2
  have Bb3 := (hb2.cell (p := ⟨w.heap.size + 1, 3, none⟩) lw11).trans Ab3
  have Bm0 := (hb2.cell (p := ⟨w.heap.size + 2, 0, none⟩) lw12).trans Am0
  have Br0 := (hb2.cell (p := ⟨w.heap.size + 3, 0, none⟩) lw13).trans Ar0
  have Be0 := (hb2.cell (p := ⟨w.heap.size + 4, 0, none⟩) lw14).trans Ae0
  have Bfr := (hb2.frozen (p := ⟨w.heap.size + 3, 0, none⟩) lw13).trans Afr
  have Bfe := (hb2.frozen (p := ⟨w.heap.size + 4, 0, none⟩) lw14).trans Afe
  have hB2 : Below w.heap.size w w2 := bt hB1 hb2
  have lw20 : w.heap.size < w2.heap.size := by omega
  have lw21 : w.heap.size + 1 < w2.heap.size := by omega
  have lw22 : w.heap.size + 2 < w2.heap.size := by omega
  have lw23 : w.heap.size + 3 < w2.heap.size := by omega
  have lw24 : w.heap.size + 4 < w2.heap.size := by omega
  clear hb2 hB1 Aa0 Aa1 Aa2 Aa3 Ab0 Ab1 Ab2 Ab3 Am0 Ar0 Ae0 Afr Afe
  have N1 : ¬ mo < 0 := by omega
  have N2 : ¬ 3000 < mo := by omega
  have M1 : decide (mo < 0) = false := by simpa using N1
  have M2 : decide (3000 < mo) = false := by simpa using N2
  gi_wp2
  refine ⟨trivial, (callsIn_wide.2 (count_from (s 0) 10 _)).mono ?_⟩
  rintro e w3 ⟨rfl, ⟨e0, e1, e2, e3⟩, es, hb3⟩
  have hz3 := hb3.size
  have Ca0 := (hb3.cell (p := ⟨w.heap.size, 0, none⟩) lw20).trans Ba0
  have Ca1 := (hb3.cell (p := ⟨w.heap.size, 1, none⟩) lw20).trans Ba1
  have Ca2 := (hb3.cell (p := ⟨w.heap.size, 2, none⟩) lw20).trans Ba2
  have Ca3 := (hb3.cell (p := ⟨w.heap.size, 3, none⟩) lw20).trans Ba3
  have Cb0 := (hb3.cell (p := ⟨w.heap.size + 1, 0, none⟩) lw21).trans Bb0
  have Cb1 := (hb3.cell (p := ⟨w.heap.size + 1, 1, none⟩) lw21).trans Bb1
  have Cb2 := (hb3.cell (p := ⟨w.heap.size + 1, 2, none⟩) lw21).trans Bb2
  have Cb3 := (hb3.cell (p := ⟨w.heap.size + 1, 3, none⟩) lw21).trans Bb3
  have Cm0 := (hb3.cell (p := ⟨w.heap.size + 2, 0, none⟩) lw22).trans Bm0
  have Cr0 := (hb3.cell (p := ⟨w.heap.size + 3, 0, none⟩) lw23).trans Br0
  have Ce0 := (hb3.cell (p := ⟨w.heap.size + 4, 0, none⟩) lw24).trans Be0
  have Cfr := (hb3.frozen (p := ⟨w.heap.size + 3, 0, none⟩) lw23).trans Bfr
  have Cfe := (hb3.frozen (p := ⟨w.heap.size + 4, 0, none⟩) lw24).trans Bfe
  have hB3 : Below w.heap.size w w3 := bt hB2 hb3
  have lw30 : w.heap.size < w3.heap.size := by omega
  have lw31 : w.heap.size + 1 < w3.heap.size := by omega
  have lw32 : w.heap.size + 2 < w3.heap.size := by omega
  have lw33 : w.heap.size + 3 < w3.heap.size := by omega
  have lw34 : w.heap.size + 4 < w3.heap.size := by omega
  have hT3 := Tab.below hT hB3
  have hL3 := Tab.below hL hB3
  clear hb3 Ba0 Ba1 Ba2 Ba3 Bb0 Bb1 Bb2 Bb3 Bm0 Br0 Be0 Bfr Bfe
  gi_wp2
  refine wpIn_range_quiet (gf := 25) rfl (enters_of Tryd.func25 (by kernel_rfl) rfl) (fun k => #[.int .i64 (k : Int), .agg #[.int .i64 (s k).1, .int .i64 (s k).2.1, .bool (s k).2.2.1, .int .i64 (s k).2.2.2]]) N (fun _ => rfl) (fun k => ¬ s k = bb ∧ ¬ k = m)
    (fun k c W => Below w.heap.size w W ∧ ((c = .ret ∧ s k = bb ∧ W.cell? ⟨w.heap.size + 3, 0, none⟩ = some (.int .i64 (k : Int)) ∧ W.cell? ⟨w.heap.size + 4, 0, none⟩ = some (.int .i64 0)) ∨ (c = .exit 0 ∧ k = m ∧ ¬ s k = bb ∧ w.heap.size + 4 < W.heap.size ∧ W.cell? ⟨w.heap.size + 3, 0, none⟩ = some (.int .i64 0) ∧ W.cell? ⟨w.heap.size + 4, 0, none⟩ = some (.int .i64 0) ∧ W.frozen? ⟨w.heap.size + 3, 0, none⟩ = false ∧ W.frozen? ⟨w.heap.size + 4, 0, none⟩ = false))) ?hJ ?hit ?round ?done ?stop
  case hJ =>
    rintro k c X Y hA ⟨h1, ⟨h2, h3, c0, c1⟩ | ⟨h2, h3, h4, h5, c0, c1, c2, c3⟩⟩
    · exact ⟨h1.trans (hA.below.mono (by omega)), .inl ⟨h2, h3, (hA.cell _).trans c0, (hA.cell _).trans c1⟩⟩
    · exact ⟨h1.trans (hA.below.mono (by omega)), .inr ⟨h2, h3, h4, by have := hA.size; omega, (hA.cell _).trans c0, (hA.cell _).trans c1, (hA.frozen _).trans c2, (hA.frozen _).trans c3⟩⟩
  case hit =>
    intro l W0 Jx hW hY
    exact count_iter_next 2 s 2 N hN l _ _ w3 W0 hT3 hL3 _ Jx HS HE rfl e0 e1 e2 e3 es hW hY
  case round =>
    intro l k W hk hW hlt
    have hWs := hW.size
    have Sa0 := (hW.cell (p := ⟨w.heap.size, 0, none⟩) lw30).trans Ca0
    have Sa1 := (hW.cell (p := ⟨w.heap.size, 1, none⟩) lw30).trans Ca1
    have Sa2 := (hW.cell (p := ⟨w.heap.size, 2, none⟩) lw30).trans Ca2
    have Sa3 := (hW.cell (p := ⟨w.heap.size, 3, none⟩) lw30).trans Ca3
    have Sb0 := (hW.cell (p := ⟨w.heap.size + 1, 0, none⟩) lw31).trans Cb0
    have Sb1 := (hW.cell (p := ⟨w.heap.size + 1, 1, none⟩) lw31).trans Cb1
    have Sb2 := (hW.cell (p := ⟨w.heap.size + 1, 2, none⟩) lw31).trans Cb2
    have Sb3 := (hW.cell (p := ⟨w.heap.size + 1, 3, none⟩) lw31).trans Cb3
    have Sm0 := (hW.cell (p := ⟨w.heap.size + 2, 0, none⟩) lw32).trans Cm0
    have Sr0 := (hW.cell (p := ⟨w.heap.size + 3, 0, none⟩) lw33).trans Cr0
    have Se0 := (hW.cell (p := ⟨w.heap.size + 4, 0, none⟩) lw34).trans Ce0
    have Sfr := (hW.frozen (p := ⟨w.heap.size + 3, 0, none⟩) lw33).trans Cfr
    have Sfe := (hW.frozen (p := ⟨w.heap.size + 4, 0, none⟩) lw34).trans Cfe
    have lW0 : w.heap.size < W.heap.size := by omega
    have lW1 : w.heap.size + 1 < W.heap.size := by omega
    have lW2 : w.heap.size + 2 < W.heap.size := by omega
    have lW3 : w.heap.size + 3 < W.heap.size := by omega
    have lW4 : w.heap.size + 4 < W.heap.size := by omega
    have hWB : Below w.heap.size w W := hB3.trans (hW.mono hB3.size)
    gi_wp2
    refine ⟨by repeat (first | (with_reducible exact Below.refl _ _) | (with_reducible assumption) | (with_reducible refine bdrew ?_) | (with_reducible refine baa ?_ _) | (with_reducible refine bs ?_ (by first | exact Nat.le_refl _ | omega | (simp; done) | (simp; omega)) _) | (with_reducible refine bt ?_ (by with_reducible assumption))), ?_⟩
    intro W2 hA
    have Ga0 : W2.cell? ⟨w.heap.size, 0, none⟩ = some (.int .i64 (s 0).1) := (hA.cell _).trans (by simp [go_sem, *])
    have Ga1 : W2.cell? ⟨w.heap.size, 1, none⟩ = some (.int .i64 (s 0).2.1) := (hA.cell _).trans (by simp [go_sem, *])
    have Ga2 : W2.cell? ⟨w.heap.size, 2, none⟩ = some (.bool (s 0).2.2.1) := (hA.cell _).trans (by simp [go_sem, *])
    have Ga3 : W2.cell? ⟨w.heap.size, 3, none⟩ = some (.int .i64 (s 0).2.2.2) := (hA.cell _).trans (by simp [go_sem, *])
    have Gb0 : W2.cell? ⟨w.heap.size + 1, 0, none⟩ = some (.int .i64 (bb).1) := (hA.cell _).trans (by simp [go_sem, *])
    have Gb1 : W2.cell? ⟨w.heap.size + 1, 1, none⟩ = some (.int .i64 (bb).2.1) := (hA.cell _).trans (by simp [go_sem, *])
    have Gb2 : W2.cell? ⟨w.heap.size + 1, 2, none⟩ = some (.bool (bb).2.2.1) := (hA.cell _).trans (by simp [go_sem, *])
    have Gb3 : W2.cell? ⟨w.heap.size + 1, 3, none⟩ = some (.int .i64 (bb).2.2.2) := (hA.cell _).trans (by simp [go_sem, *])
    have Gm0 : W2.cell? ⟨w.heap.size + 2, 0, none⟩ = some (.int .i64 mo) := (hA.cell _).trans (by simp [go_sem, *])
    have Gr0 : W2.cell? ⟨w.heap.size + 3, 0, none⟩ = some (.int .i64 0) := (hA.cell _).trans (by simp [go_sem, *])
    have Ge0 : W2.cell? ⟨w.heap.size + 4, 0, none⟩ = some (.int .i64 0) := (hA.cell _).trans (by simp [go_sem, *])
    have Gfr : W2.frozen? ⟨w.heap.size + 3, 0, none⟩ = false := (hA.frozen _).trans (by simp [go_sem, *])
    have Gfe : W2.frozen? ⟨w.heap.size + 4, 0, none⟩ = false := (hA.frozen _).trans (by simp [go_sem, *])
    have Y0 : W2.cell? ⟨W.heap.size, 0, none⟩ = some (.int .i64 (s k).1) := (hA.cell _).trans (by simp [go_sem, *])
    have Y1 : W2.cell? ⟨W.heap.size, 1, none⟩ = some (.int .i64 (s k).2.1) := (hA.cell _).trans (by simp [go_sem, *])
    have Y2 : W2.cell? ⟨W.heap.size, 2, none⟩ = some (.bool (s k).2.2.1) := (hA.cell _).trans (by simp [go_sem, *])
    have Y3 : W2.cell? ⟨W.heap.size, 3, none⟩ = some (.int .i64 (s k).2.2.2) := (hA.cell _).trans (by simp [go_sem, *])
    have hsA : W2.heap.size = W.heap.size + 1 := hA.size.trans (by simp)
    have hAB : Below w.heap.size w W2 := Below.trans (by repeat (first | (with_reducible exact Below.refl _ _) | (with_reducible assumption) | (with_reducible refine bdrew ?_) | (with_reducible refine baa ?_ _) | (with_reducible refine bs ?_ (by first | exact Nat.le_refl _ | omega | (simp; done) | (simp; omega)) _) | (with_reducible refine bt ?_ (by with_reducible assumption)))) (hA.below.mono hB3.size)
    clear hA Sa0 Sa1 Sa2 Sa3 Sb0 Sb1 Sb2 Sb3 Sm0 Sr0 Se0 Sfr Sfe
    by_cases c : s k = bb
    · have y0 : (s k).1 = bb.1 := by rw [c]
      have y1 : (s k).2.1 = bb.2.1 := by rw [c]
      have y2 : (s k).2.2.1 = bb.2.2.1 := by rw [c]
      have y3 : (s k).2.2.2 = bb.2.2.2 := by rw [c]
      rw [y0] at Y0
      rw [y1] at Y1
      rw [y2] at Y2
      rw [y3] at Y3
      clear y0 y1 y2 y3
      have hc := Lib.hid c
      clear c
      gi_wp2
      refine ⟨?_, by repeat (first | (with_reducible exact Below.refl _ _) | (with_reducible assumption) | (with_reducible refine bdrew ?_) | (with_reducible refine baa ?_ _) | (with_reducible refine bs ?_ (by first | exact Nat.le_refl _ | omega | (simp; done) | (simp; omega)) _) | (with_reducible refine bt ?_ (by with_reducible assumption))), .inl ⟨rfl, hc.out, by simp [go_sem, *], by simp [go_sem, *]⟩⟩
      repeat (first | exact Upper.refl _ _ | refine Upper.setCell ?_ (by simp; omega) _)
    · have hne : (((s k).1 == bb.1) && (((s k).2.1 == bb.2.1) && (((s k).2.2.1 == bb.2.2.1) && ((s k).2.2.2 == bb.2.2.2)))) = false := by
        rw [Bool.eq_false_iff]
        intro h
        simp only [Bool.and_eq_true, beq_iff_eq] at h
        exact c (Prod.ext h.1 (Prod.ext h.2.1 (Prod.ext h.2.2.1 h.2.2.2)))
      have hc := Lib.hid c
      clear c
      by_cases e : k = m
      · have e2 : ((k : Int) == mo) = true := by simpa using (show (k : Int) = mo by omega)
        have he := Lib.hid e
        have l4 : w.heap.size + 4 < W2.heap.size := by omega
        clear e hm
        gi_wp2
        all_goals first
          | exact ⟨Upper.refl _ _, hAB, .inr ⟨rfl, he.out, hc.out, l4, Gr0, Ge0, Gfr, Gfe⟩⟩
          | (exfalso; simp_all; done)
      · have e2 : ((k : Int) == mo) = false := by simpa using (show ¬ (k : Int) = mo by omega)
        have he := Lib.hid e
        clear e hm
        gi_wp2
        all_goals first
          | exact ⟨⟨hc.out, he.out⟩, Below.refl _ _⟩
          | (exfalso; simp_all; done)
  case done =>
    intro W hW hG hD
    have hWs := hW.size
    have Sa0 := (hW.cell (p := ⟨w.heap.size, 0, none⟩) lw30).trans Ca0
    have Sa1 := (hW.cell (p := ⟨w.heap.size, 1, none⟩) lw30).trans Ca1
    have Sa2 := (hW.cell (p := ⟨w.heap.size, 2, none⟩) lw30).trans Ca2
    have Sa3 := (hW.cell (p := ⟨w.heap.size, 3, none⟩) lw30).trans Ca3
    have Sb0 := (hW.cell (p := ⟨w.heap.size + 1, 0, none⟩) lw31).trans Cb0
    have Sb1 := (hW.cell (p := ⟨w.heap.size + 1, 1, none⟩) lw31).trans Cb1
    have Sb2 := (hW.cell (p := ⟨w.heap.size + 1, 2, none⟩) lw31).trans Cb2
    have Sb3 := (hW.cell (p := ⟨w.heap.size + 1, 3, none⟩) lw31).trans Cb3
    have Sm0 := (hW.cell (p := ⟨w.heap.size + 2, 0, none⟩) lw32).trans Cm0
    have Sr0 := (hW.cell (p := ⟨w.heap.size + 3, 0, none⟩) lw33).trans Cr0
    have Se0 := (hW.cell (p := ⟨w.heap.size + 4, 0, none⟩) lw34).trans Ce0
    have Sfr := (hW.frozen (p := ⟨w.heap.size + 3, 0, none⟩) lw33).trans Cfr
    have Sfe := (hW.frozen (p := ⟨w.heap.size + 4, 0, none⟩) lw34).trans Cfe
    have lW0 : w.heap.size < W.heap.size := by omega
    have lW1 : w.heap.size + 1 < W.heap.size := by omega
    have lW2 : w.heap.size + 2 < W.heap.size := by omega
    have lW3 : w.heap.size + 3 < W.heap.size := by omega
    have lW4 : w.heap.size + 4 < W.heap.size := by omega
    have hWB : Below w.heap.size w W := hB3.trans (hW.mono hB3.size)
    obtain ⟨rfl, rfl⟩ := hR.2 (fun q h1 h2 h3 => (hG q h1).1 h3)
    clear hm
    gi_wp2
    refine leaves_cells (by repeat (first | (with_reducible exact hD) | refine (Below.heap_setCell _ _ _ _ (by simp; omega)).trans ?_)) (by repeat (first | (with_reducible exact Below.refl _ _) | (with_reducible assumption) | (with_reducible refine bdrew ?_) | (with_reducible refine baa ?_ _) | (with_reducible refine bs ?_ (by first | exact Nat.le_refl _ | omega | (simp; done) | (simp; omega)) _) | (with_reducible refine bt ?_ (by with_reducible assumption)))) (by omega) (fun Y hY => ?_)
    have T0 : Y.cell? ⟨w.heap.size + 3, 0, none⟩ = some (.int .i64 0) := (hY _).trans (by simp [go_sem, *])
    have T1 : Y.cell? ⟨w.heap.size + 4, 0, none⟩ = some (.int .i64 2) := (hY _).trans (by simp [go_sem, *])
    simp [results, Tryd.results8, go_sem, T0, T1]
  case stop =>
    rintro k c W hk hG ⟨hB, ⟨rfl, h3, c0, c1⟩ | ⟨rfl, rfl, h4, h5, c0, c1, c2, c3⟩⟩ hD
    · have hkm : k ≤ m := by
        rcases Nat.lt_or_ge m k with h | h
        · exact absurd rfl (hG m h).2
        · exact h
      obtain ⟨rfl, rfl⟩ := hR.1 k hk hkm h3
      gi_wp2
      refine leaves_cells hD hB (by omega) (fun Y hY => ?_)
      have T0 : Y.cell? ⟨w.heap.size + 3, 0, none⟩ = some (.int .i64 (k : Int)) := (hY _).trans (c0)
      have T1 : Y.cell? ⟨w.heap.size + 4, 0, none⟩ = some (.int .i64 0) := (hY _).trans (c1)
      simp [results, Tryd.results8, go_sem, T0, T1]
    · obtain ⟨rfl, rfl⟩ := hR.2 (fun q h1 h2 h3 => by
        rcases Nat.lt_or_ge q k with h | h
        · exact (hG q h).1 h3
        · obtain rfl : q = k := by omega
          exact h4 h3)
      have lW3 : w.heap.size + 3 < W.heap.size := by omega
      have lDs : w3.heap.size < W.heap.size := (Array.getElem?_eq_some_iff.1 hD).1
      clear hm
      gi_wp2
      refine leaves_cells (by repeat (first | (with_reducible exact hD) | refine (Below.heap_setCell _ _ _ _ (by simp; omega)).trans ?_)) (by repeat (first | (with_reducible exact Below.refl _ _) | (with_reducible assumption) | (with_reducible refine bdrew ?_) | (with_reducible refine baa ?_ _) | (with_reducible refine bs ?_ (by first | exact Nat.le_refl _ | omega | (simp; done) | (simp; omega)) _) | (with_reducible refine bt ?_ (by with_reducible assumption)))) (by omega) (fun Y hY => ?_)
      have T0 : Y.cell? ⟨w.heap.size + 3, 0, none⟩ = some (.int .i64 0) := (hY _).trans (by simp [go_sem, *])
      have T1 : Y.cell? ⟨w.heap.size + 4, 0, none⟩ = some (.int .i64 2) := (hY _).trans (by simp [go_sem, *])
      simp [results, Tryd.results8, go_sem, T0, T1]
end Go.Proofs.YtgcpflbpiifdbaaDoor
