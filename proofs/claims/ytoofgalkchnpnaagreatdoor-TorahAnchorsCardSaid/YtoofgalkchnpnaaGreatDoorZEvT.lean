/- Lists of events: the document's order of them. -/
import Derived.Test.YtoofgalkchnpnaaGreatDoorZEvR
namespace Go.Proofs.YtoofgalkchnpnaaGreatDoor
open Go.ChangeShapes Go.WideShapes Go.ChangeAt Go.RowKit Go.Lib Go.Sort Go.Shelf
set_option linter.unusedVariables false
set_option maxRecDepth 100000
theorem ev_news (w : World) (x1 x2 : Int) : ∀ j u, [Value.int .i64 x1, .int .i64 x2][j]? = some u → (w.alloc (.cells #[.int .i64 x1, .int .i64 x2] 62)).cell? ((⟨w.heap.size, 0, none⟩ : Addr).add j) = some u := news_at w #[.int .i64 x1, .int .i64 x2] 62 w.heap.size rfl
theorem ev_one (x1 x2 : Int) : ∀ u ∈ [Value.int .i64 x1, .int .i64 x2], u.oneCell' = true := Ev.flat_one [(x1, x2)]
theorem Ev.own_cap {w : World} {B n c : Nat} {a : Addr} {l : List (Int × Int)} {m : Nat} (h : w.ownsRow B 62 2 (.slice (some a) n c) m (Ev.flat l)) : m ≤ c := by
  rcases h.2 with ⟨e0, _⟩ | ⟨g, cap, cur, e0, hb, hg, hn, hm, hs, ht⟩
  · cases e0
  · injection e0 with _ _ e3
    subst e3
    exact hn
theorem Ev.form0 {w : World} {B n : Nat} {v : Value} {xs : List Value} (h : w.ownsRow B 62 2 v n xs) (hv : v ≠ .slice none 0 0) : ∃ g c, v = .slice (some ⟨g, 0, none⟩) n c ∧ B ≤ g ∧ g < w.heap.size := by
  rcases h.2 with ⟨e, _⟩ | ⟨g, cap, cur, e, hb, hg, _⟩
  · exact absurd e hv
  · exact ⟨g, cap, e, hb, (Array.getElem?_eq_some_iff.1 hg).1⟩
theorem Ev.own_put2 {w : World} {B p k : Nat} {v : Value} {S : List (Int × Int)} {x1 x2 : Int} (hS : S.length = k) (hp : p ≤ k) (h : w.ownsRow B 62 2 v (p + 1 + (k - p)) (Ev.flat (S.take p) ++ [.int .i64 x1, .int .i64 x2] ++ Ev.flat (S.drop p))) : Ev.Own w B v (S.take p ++ (x1, x2) :: S.drop p) := by
  unfold Ev.Own
  have e : (S.take p ++ (x1, x2) :: S.drop p).length = p + 1 + (k - p) := by
    rw [List.length_append, List.length_take, List.length_cons, List.length_drop]; omega
  rw [e, Ev.flat_app, show Ev.flat ((x1, x2) :: S.drop p) = [.int .i64 x1, .int .i64 x2] ++ Ev.flat (S.drop p) from rfl, ← List.append_assoc]
  exact h
theorem perm_next {l S S' : List (Int × Int)} {k : Nat} {x : Int × Int} (hx : l[k]? = some x) (hp : S.Perm (l.take k)) (h' : S'.Perm (x :: S)) : S'.Perm (l.take (k + 1)) := by
  rw [List.take_add_one, hx]
  exact h'.trans ((hp.cons x).trans (List.perm_append_singleton x (l.take k)).symm)
set_option maxHeartbeats 8000000 in
theorem ref19_Sort_go (b off cap n : Nat) (l : List (Int × Int)) (w : World) (hn : n ≤ 1000) (hl : l.length = n)
    (H1 : Hid (∀ j u, (Ev.flat l)[j]? = some u → w.cell? ⟨b, off + j, none⟩ = some u)) :
    Calls Tryo.prog 80 #[.slice (some ⟨b, off, none⟩) n cap] w fun e w' => ∃ v', e = .returned v' ∧ Ev.Own w' w.heap.size v' (Ev.sort l) ∧ Below w.heap.size w w' := by
  obtain ⟨i0, hi, hz0, hz1, hz2⟩ := info_parts A_infoEvent
  go_enter Tryo.func80, Tryz.ntmps80
  go_wp2_with fail
  go_loopw [3, 4] (fun v i wr => ∃ (k : Nat) (S : List (Int × Int)), k ≤ n ∧ i = .int .i64 (k : Int) ∧ Ev.Own wr w.heap.size v S ∧ Hid (Ev.Srt S ∧ S.Perm (l.take k)) ∧ Hid (v = .slice none 0 0 ∨ 0 < k) ∧ Below w.heap.size w wr) (fun _ i _ => n - (intOf i).toNat)
  case atStart => exact ⟨0, [], Nat.zero_le _, rfl, Ev.Own.nil _ _, Lib.hid ⟨List.Pairwise.nil, List.Perm.refl _⟩, Lib.hid (.inl rfl), Below.refl _ _⟩
  case round =>
    obtain ⟨k, S, hk, rfl, HO, HS, HV, hB⟩ := hrel
    obtain ⟨w1, rfl⟩ : ∃ x, x = wr := ⟨_, rfl⟩
    have hL : S.length = k := by
      have := HS.out.2.length_eq
      rw [List.length_take] at this
      omega
    have hsz := hB.size
    by_cases hlt : k < n
    · have k0 : (0 : Int) ≤ (k : Int) := by omega
      have k1 : (k : Int) < (n : Int) := by omega
      obtain ⟨x, hx⟩ : ∃ x, l[k]? = some x := ⟨_, List.getElem?_eq_getElem (by omega)⟩
      obtain ⟨x1, x2⟩ := x
      have HCX := Lib.hid (fun (W : World) (hW : Below w.heap.size w W) => Ev.cells_at (w := W) (fun j u hj => (hW.cell (World.block_lt_of_cell? w _ (H1.out j u hj))).trans (H1.out j u hj)) k (x1, x2) hx)
      have HX := Lib.hid hx
      clear hx
      by_cases hk0 : k = 0
      · have hS : S = [] := List.eq_nil_of_length_eq_zero (by omega)
        subst hS
        rcases HV.out with rfl | h
        case inr => omega
        clear hk0 hL
        go_wp2_with fail
        go_loopw [5] (fun a ws => a = .int .i64 0 ∧ ws = w1) (fun _ _ => 0)
        case atStart => exact ⟨rfl, rfl⟩
        case round =>
          obtain ⟨rfl, rfl⟩ := hrel
          go_wp2_with fail
          refine wp_region_class (by kernel_rfl) (by kernel_rfl) (fun hall => ?_)
          repeat (first | go_big_quiet_skip | (go_big_quiet_want; first | (refine quiet_load1 _ _ _ rfl rfl ?_ ?_ ?_; (focus (intro _; simp; done)); (focus (first | assumption | omega | (simp; done) | (simp; omega))); apply Exists.intro; refine ⟨?_, ?_⟩; assumption; go_simp; go_big_quiet_on) | (refine quiet_load2 _ _ _ _ rfl rfl ?_ ?_ ?_ ?_; (focus (intro _; simp; done)); (focus (intro _; simp; done)); (focus (first | assumption | omega | (simp; done) | (simp; omega))); apply Exists.intro; apply Exists.intro; refine ⟨?_, ?_, ?_⟩; assumption; assumption; go_simp; go_big_quiet_on) | (refine quiet_load3 _ _ _ _ rfl rfl ?_ ?_ ?_ ?_; (focus (intro _; simp; done)); (focus (intro _; simp; done)); (focus (first | assumption | omega | (simp; done) | (simp; omega))); apply Exists.intro; apply Exists.intro; apply Exists.intro; refine ⟨?_, ?_, ?_, ?_⟩; assumption; assumption; assumption; go_simp; go_big_quiet_on) | (refine quiet_load4 _ _ _ _ rfl rfl ?_ ?_ ?_ ?_; (focus (intro _; simp; done)); (focus (intro _; simp; done)); (focus (first | assumption | omega | (simp; done) | (simp; omega))); apply Exists.intro; apply Exists.intro; apply Exists.intro; apply Exists.intro; refine ⟨?_, ?_, ?_, ?_, ?_⟩; assumption; assumption; assumption; assumption; go_simp; go_big_quiet_on) | (go_big_quiet_op; first | go_big_quiet_on | (apply Exists.intro; refine ⟨fun x hx => ?_, ?_⟩; (first | fail); go_big_quiet_on))))
          refine wpQuiet_nil ?_
          clear hall
          intro x6 hx6
          go_wp2_with fail
          refine settle (fun W => W.cell? ⟨b, off + k * 2, none⟩ = some (.int .i64 x1) ∧ W.cell? ⟨b, off + k * 2 + 1, none⟩ = some (.int .i64 x2) ∧ w.heap.size ≤ W.heap.size ∧ Below w.heap.size w W) ⟨(HCX.out _ (baa (bt hB hx6) _)).1, (HCX.out _ (baa (bt hB hx6) _)).2, (baa (bt hB hx6) _).size, baa (bt hB hx6) _⟩ ?_
          rintro W9 ⟨c1, c2, hs9, hB9⟩
          go_region_law (first
            | (refine step_append_any rfl (.tmp 38) (.tmp 43) 58 rfl w.heap.size 62 i0 (.agg #[.int .i64 0, .int .i64 0]) 2 16 (und_o Tryz.underlying58) hi hz0 hz1 hz2 rfl (by decide) (.slice none 0 0) 0 [] rfl (World.ownsRow_nil _ _ _ _) _ 1 1 [.int .i64 x1, .int .i64 x2] rfl (by first | rfl | (exact HD.out) | (simp [Ev.flat_len]; done) | (simp [Ev.flat_len]; omega)) (ev_news _ x1 x2) (ev_one x1 x2) (by simp only [maxLen]; omega) (by omega) (by first | assumption | (simp; omega) | omega) ?_; intro v7 w7 hown7 hgrow7 hblk7)
            | (refine step_append_any rfl (.tmp 44) (.tmp 45) 58 rfl w.heap.size 62 i0 (.agg #[.int .i64 0, .int .i64 0]) 2 16 (und_o Tryz.underlying58) hi hz0 hz1 hz2 rfl (by decide) v7 1 ([] ++ [.int .i64 x1, .int .i64 x2]) rfl hown7 _ 0 0 [] rfl (by first | rfl | (exact HD.out) | (simp [Ev.flat_len]; done) | (simp [Ev.flat_len]; omega)) (by simp) (by simp) (by simp only [maxLen]; omega) (by omega) (by have h9 := hgrow7.size; simp at h9; omega) ?_; intro v8 w8 hown8 hgrow8 hblk8))
          all_goals go_wp2_with fail
          all_goals go_roundw
          case rel =>
            have hb8 : Below w.heap.size w w8 := bgrown (bgrown (bdrew (baa hB9 _)) hgrow7 (by intro k e; cases e)) hgrow8 (fun k e => (hown7.lt k e).1)
            exact ⟨k + 1, [(x1, x2)], by omega, by go_num, hown8, Lib.hid ⟨List.pairwise_singleton _ _, perm_next HX.out HS.out.2 (List.Perm.refl _)⟩, Lib.hid (.inr (by omega)), hb8⟩
          case measure => simp [intOf]; omega
      · obtain ⟨g, cap1, hv, hg1, hg2⟩ := World.ownsRow.form HO (by omega)
        rw [hL] at hv
        subst hv
        have HOL := Lib.hid (show Ev.Own w1 w.heap.size (.slice (some ⟨g, 0, none⟩) S.length cap1) S by rw [hL]; exact HO)
        have HL := Lib.hid hL
        have hcp : k ≤ cap1 := by have := Ev.own_cap HO; omega
        clear HO hL
        go_wp2_with fail
        go_loopw [5] (fun a ws => ∃ p : Nat, p ≤ k ∧ a = .int .i64 (p : Int) ∧ Hid (∀ j y, p ≤ j → S[j]? = some y → Ev.lt (x1, x2) y = true) ∧ Below w1.heap.size w1 ws) (fun a _ => (intOf a).toNat)
        case atStart => exact ⟨k, Nat.le_refl _, rfl, Lib.hid (fun j y hj hy => by rw [List.getElem?_eq_none (by have := HL.out; omega)] at hy; cases hy), Below.refl _ _⟩
        case round =>
          obtain ⟨p, hp, rfl, HP, hBs⟩ := hrel
          have hBw := bt hB hBs
          obtain ⟨cx1, cx2⟩ := HCX.out _ hBw
          have lx := World.block_lt_of_cell? _ _ cx1
          dsimp only at lx
          by_cases hp0 : p = 0
          · subst hp0
            have p2 : (k : Int) ≤ (cap1 : Int) := by omega
            go_wp2_with fail
            refine wp_region_class (by kernel_rfl) (by kernel_rfl) (fun hall => ?_)
            repeat (first | go_big_quiet_skip | (go_big_quiet_want; first | (refine quiet_load1 _ _ _ rfl rfl ?_ ?_ ?_; (focus (intro _; simp; done)); (focus (first | assumption | omega | (simp; done) | (simp; omega))); apply Exists.intro; refine ⟨?_, ?_⟩; assumption; go_simp; go_big_quiet_on) | (refine quiet_load2 _ _ _ _ rfl rfl ?_ ?_ ?_ ?_; (focus (intro _; simp; done)); (focus (intro _; simp; done)); (focus (first | assumption | omega | (simp; done) | (simp; omega))); apply Exists.intro; apply Exists.intro; refine ⟨?_, ?_, ?_⟩; assumption; assumption; go_simp; go_big_quiet_on) | (refine quiet_load3 _ _ _ _ rfl rfl ?_ ?_ ?_ ?_; (focus (intro _; simp; done)); (focus (intro _; simp; done)); (focus (first | assumption | omega | (simp; done) | (simp; omega))); apply Exists.intro; apply Exists.intro; apply Exists.intro; refine ⟨?_, ?_, ?_, ?_⟩; assumption; assumption; assumption; go_simp; go_big_quiet_on) | (refine quiet_load4 _ _ _ _ rfl rfl ?_ ?_ ?_ ?_; (focus (intro _; simp; done)); (focus (intro _; simp; done)); (focus (first | assumption | omega | (simp; done) | (simp; omega))); apply Exists.intro; apply Exists.intro; apply Exists.intro; apply Exists.intro; refine ⟨?_, ?_, ?_, ?_, ?_⟩; assumption; assumption; assumption; assumption; go_simp; go_big_quiet_on) | (go_big_quiet_op; first | go_big_quiet_on | (apply Exists.intro; refine ⟨fun x hx => ?_, ?_⟩; (first | fail); go_big_quiet_on))))
            refine wpQuiet_nil ?_
            clear hall
            intro x6 hx6
            have hBx := bt hBs hx6
            have hbx := bt hB hBx
            have HX6 := HOL.out.below hBx
            have hgx : g < x6.heap.size := by have := hBx.size; omega
            have HD : Hid ((Ev.flat (S.drop 0)).length = (k - 0) * 2) := Lib.hid (by rw [Ev.flat_len, List.length_drop, HL.out]; try omega)
            have HZ : Hid (cap1 ≤ 0 → Ev.flat (S.drop 0) = []) := Lib.hid (fun h => by rw [List.drop_eq_nil_of_le (by rw [HL.out]; omega)]; rfl)
            have HN : Hid (∀ j u, (Ev.flat (S.drop 0))[j]? = some u → (x6.alloc (.cells #[] 62)).cell? ((⟨g, 0 * 2, none⟩ : Addr).add j) = some u) := Lib.hid (fun j u hj => by
              rw [Addr.add_lit]
              refine Lib.cell?_alloc_some _ ?_
              have := World.ownsRow.cells HX6 rfl (0 * 2 + j) u (Ev.flat_drop S 0 j u (by rw [HL.out]; omega) hj)
              rw [Addr.add_lit, Nat.zero_add] at this
              exact this)
            go_wp2_with (at_builtin; refine wpList_append_own_at _ rfl (.tmp 31) (.tmp 34) 58 rfl x6.heap.size 62 i0 (.agg #[.int .i64 0, .int .i64 0]) 2 16 (und_o Tryz.underlying58) hi hz0 hz1 hz2 rfl (by decide) _ 0 [] rfl (World.ownsRow_made x6 #[] 0 (Nat.le_refl _) (Nat.zero_le _) (by simp)) _ _ _ (Ev.flat (S.drop 0)) rfl (by first | exact HD.out | (rw [HD.out]; done)) (by first | exact HN.out | exact (fun j u hj => absurd hj (by rw [HZ.out (by omega)]; simp))) (Ev.flat_one _) (by simp only [maxLen]; omega) (by omega) (by simp) ?_; intro v6 w6 hown6 hgrow6 hnil6 hblk6)
            all_goals (
              have hv6 : v6 ≠ .slice none 0 0 := fun e => by have := (hnil6.1 e).1; cases this
              obtain ⟨g6, cap6, rfl, hg6, hg7⟩ := Ev.form0 hown6 hv6
              simp only [Nat.zero_add, List.nil_append] at hown6 hnil6 hblk6 ⊢
              have hb6 : Below w.heap.size w w6 := bgrown (baa hbx _) hgrow6 (fun k e => by cases e; exact hbx.size)
              have hk6 : Ev.Own w6 w.heap.size (.slice (some ⟨g, 0, none⟩) S.length cap1) S := (World.ownsRow.alloc HX6 _).kept hgrow6 (.inr (fun e => by have e2 : g = x6.heap.size := Option.some.inj e; omega))
              refine settle (fun W => W.cell? ⟨b, off + k * 2, none⟩ = some (.int .i64 x1) ∧ W.cell? ⟨b, off + k * 2 + 1, none⟩ = some (.int .i64 x2) ∧ w.heap.size ≤ W.heap.size ∧ Below w.heap.size w W ∧ W.ownsRow w.heap.size 62 2 (.slice (some ⟨g, 0, none⟩) 0 cap1) 0 (Ev.flat (S.take 0)) ∧ W.ownsRow x6.heap.size 62 2 (.slice (some ⟨g6, 0, none⟩) (k - 0) cap6) (k - 0) (Ev.flat (S.drop 0))) ⟨(HCX.out _ hb6).1, (HCX.out _ hb6).2, hb6.size, hb6, ?_, hown6⟩ ?_
              · have := Ev.own_take hk6 0 (by rw [HL.out]; omega)
                unfold Ev.Own at this
                rwa [List.length_take, HL.out, show min 0 k = 0 by omega] at this
              rintro W9 ⟨c1, c2, hs9, hB9, HOP, hr9⟩
              have hne : g6 ≠ g := by omega
              clear hnil6 hv6 hblk6 hgrow6 hown6 hb6 hk6 hg7
              go_region_law (first
                | (refine step_append_any rfl (.tmp 38) (.tmp 43) 58 rfl w.heap.size 62 i0 (.agg #[.int .i64 0, .int .i64 0]) 2 16 (und_o Tryz.underlying58) hi hz0 hz1 hz2 rfl (by decide) (.slice (some ⟨g, 0, none⟩) 0 cap1) 0 (Ev.flat (S.take 0)) rfl (HOP.alloc _) _ 1 1 [.int .i64 x1, .int .i64 x2] rfl (by first | rfl | (exact HD.out) | (simp [Ev.flat_len]; done) | (simp [Ev.flat_len]; omega)) (ev_news _ x1 x2) (ev_one x1 x2) (by simp only [maxLen]; omega) (by omega) (by first | assumption | (simp; omega) | omega) ?_; intro v7 w7 hown7 hgrow7 hblk7)
                | (refine step_append_any rfl (.tmp 44) (.tmp 45) 58 rfl w.heap.size 62 i0 (.agg #[.int .i64 0, .int .i64 0]) 2 16 (und_o Tryz.underlying58) hi hz0 hz1 hz2 rfl (by decide) v7 (0 + 1) (Ev.flat (S.take 0) ++ [.int .i64 x1, .int .i64 x2]) rfl hown7 ⟨g6, 0, none⟩ (k - 0) cap6 (Ev.flat (S.drop 0)) rfl (by first | rfl | (exact HD.out) | (simp [Ev.flat_len]; done) | (simp [Ev.flat_len]; omega)) (fun j u hj => World.grownBy.cell hgrow7 (World.ownsRow.cells (World.ownsRow.alloc hr9 _) rfl j u hj) (fun e => hne (Option.some.inj (show some g6 = some g by rw [Addr.add_lit] at e; exact e)))) (Ev.flat_one _) (by simp only [maxLen]; omega) (by omega) (by have h9 := hgrow7.size; simp at h9; omega) ?_; intro v8 w8 hown8 hgrow8 hblk8))
              all_goals go_wp2_with fail
              all_goals go_roundw
              case rel =>
                have hb8 : Below w.heap.size w w8 := bgrown (bgrown (bdrew (baa hB9 _)) hgrow7 (fun k e => by cases e; exact hg1)) hgrow8 (fun k e => (hown7.lt k e).1)
                have hsp := Ev.srt_put (S := S) (x := (x1, x2)) (p := 0) (by rw [HL.out]; omega) HS.out.1 HP.out (fun y h => absurd rfl h)
                exact ⟨k + 1, _, by omega, by go_num, Ev.own_put2 HL.out (by omega) (by first | exact hown8 | (rw [show k - 0 = 0 by omega]; exact hown8)), Lib.hid ⟨hsp.1, perm_next HX.out HS.out.2 hsp.2⟩, Lib.hid (.inr (by omega)), hb8⟩
              case measure => simp [intOf]; omega
            )
          · obtain ⟨q, rfl⟩ : ∃ q, p = q + 1 := ⟨p - 1, by omega⟩
            obtain ⟨y, hy⟩ : ∃ y, S[q]? = some y := ⟨_, List.getElem?_eq_getElem (by have := HL.out; omega)⟩
            obtain ⟨y1, y2⟩ := y
            have HY := Lib.hid hy
            have hcy : wr.cell? ⟨g, q * 2, none⟩ = some (.int .i64 y1) ∧ wr.cell? ⟨g, q * 2 + 1, none⟩ = some (.int .i64 y2) := by
              obtain ⟨b', off', c', e', hc'⟩ := (HOL.out.below hBs).row.at_some (by have := HL.out; omega)
              simp only [Value.slice.injEq, Option.some.injEq, Addr.mk.injEq] at e'
              obtain ⟨⟨rfl, rfl, _⟩, _, rfl⟩ := e'
              have := Ev.cells_at hc' q (y1, y2) HY.out
              rw [Nat.zero_add] at this
              exact this
            obtain ⟨cy1, cy2⟩ := hcy
            have ly : g < wr.heap.size := by have := hBs.size; omega
            have q0 : (0 : Int) ≤ (q : Int) := by omega
            have q1 : (q : Int) < (k : Int) := by omega
            have q2 : (0 : Int) < (q : Int) + 1 := by omega
            have q3 : (q : Int) ≤ 1000 := by omega
            have q4 : (q : Int) + 1 ≤ (cap1 : Int) := by omega
            have q5 : (0 : Int) ≤ (q : Int) + 1 := by omega
            have q6 : ((q : Int) + 1).toNat = q + 1 := by omega
            have q7 : (q : Int) + 1 ≤ (k : Int) := by omega
            have q8 : (k : Int) ≤ (cap1 : Int) := by omega
            have q9 : q + 1 ≤ cap1 := by omega
            have e0 : ((q + 1 : Nat) : Int) = (q : Int) + 1 := by omega
            have HBf := Lib.hid (fun W => ref19_before x1 x2 y1 y2 W)
            clear hy
            cases hlt2 : Ev.lt (x1, x2) (y1, y2)
            · rw [hlt2] at HBf
              have HLT := Lib.hid hlt2
              clear hlt2
              rw [e0]
              clear e0
              go_wp2_with fail
              refine wp_region_class (by kernel_rfl) (by kernel_rfl) (fun hall => ?_)
              repeat (first | go_big_quiet_skip | (go_big_quiet_want; first | (refine quiet_load1 _ _ _ rfl rfl ?_ ?_ ?_; (focus (intro _; simp; done)); (focus (first | assumption | omega | (simp; done) | (simp; omega))); apply Exists.intro; refine ⟨?_, ?_⟩; assumption; go_simp; go_big_quiet_on) | (refine quiet_load2 _ _ _ _ rfl rfl ?_ ?_ ?_ ?_; (focus (intro _; simp; done)); (focus (intro _; simp; done)); (focus (first | assumption | omega | (simp; done) | (simp; omega))); apply Exists.intro; apply Exists.intro; refine ⟨?_, ?_, ?_⟩; assumption; assumption; go_simp; go_big_quiet_on) | (refine quiet_load3 _ _ _ _ rfl rfl ?_ ?_ ?_ ?_; (focus (intro _; simp; done)); (focus (intro _; simp; done)); (focus (first | assumption | omega | (simp; done) | (simp; omega))); apply Exists.intro; apply Exists.intro; apply Exists.intro; refine ⟨?_, ?_, ?_, ?_⟩; assumption; assumption; assumption; go_simp; go_big_quiet_on) | (refine quiet_load4 _ _ _ _ rfl rfl ?_ ?_ ?_ ?_; (focus (intro _; simp; done)); (focus (intro _; simp; done)); (focus (first | assumption | omega | (simp; done) | (simp; omega))); apply Exists.intro; apply Exists.intro; apply Exists.intro; apply Exists.intro; refine ⟨?_, ?_, ?_, ?_, ?_⟩; assumption; assumption; assumption; assumption; go_simp; go_big_quiet_on) | (go_big_quiet_op; first | go_big_quiet_on | (apply Exists.intro; refine ⟨fun x hx => ?_, ?_⟩; (first | (with_reducible exact call_below hx (HBf.out x)) | exact call_below hx (HBf.out x)); go_big_quiet_on))))
              refine wpQuiet_nil ?_
              clear hall
              intro x6 hx6
              by_cases hcq : cap1 = q + 1
              · subst hcq
                have hBx := bt hBs hx6
                have hbx := bt hB hBx
                have HX6 := HOL.out.below hBx
                have hgx : g < x6.heap.size := by have := hBx.size; omega
                have HD : Hid ((Ev.flat (S.drop (q + 1))).length = 0 * 2) := Lib.hid (by rw [Ev.flat_len, List.length_drop, HL.out]; try omega)
                have HZ : Hid ((q + 1) ≤ (q + 1) → Ev.flat (S.drop (q + 1)) = []) := Lib.hid (fun h => by rw [List.drop_eq_nil_of_le (by rw [HL.out]; omega)]; rfl)
                have HN : Hid (∀ j u, (Ev.flat (S.drop (q + 1)))[j]? = some u → (x6.alloc (.cells #[] 62)).cell? ((⟨g, (q + 1) * 2, none⟩ : Addr).add j) = some u) := Lib.hid (fun j u hj => by
                  rw [Addr.add_lit]
                  refine Lib.cell?_alloc_some _ ?_
                  have := World.ownsRow.cells HX6 rfl ((q + 1) * 2 + j) u (Ev.flat_drop S (q + 1) j u (by rw [HL.out]; omega) hj)
                  rw [Addr.add_lit, Nat.zero_add] at this
                  exact this)
                go_wp2_with (at_builtin; refine wpList_append_own_at _ rfl (.tmp 31) (.tmp 34) 58 rfl x6.heap.size 62 i0 (.agg #[.int .i64 0, .int .i64 0]) 2 16 (und_o Tryz.underlying58) hi hz0 hz1 hz2 rfl (by decide) _ 0 [] rfl (World.ownsRow_made x6 #[] 0 (Nat.le_refl _) (Nat.zero_le _) (by simp)) _ _ _ (Ev.flat (S.drop (q + 1))) rfl (by first | exact HD.out | (rw [HD.out]; done)) (by first | exact HN.out | exact (fun j u hj => absurd hj (by rw [HZ.out (by omega)]; simp))) (Ev.flat_one _) (by simp only [maxLen]; omega) (by omega) (by simp) ?_; intro v6 w6 hown6 hgrow6 hnil6 hblk6)
                all_goals (
                  have hv6 : v6 ≠ .slice none 0 0 := fun e => by have := (hnil6.1 e).1; cases this
                  obtain ⟨g6, cap6, rfl, hg6, hg7⟩ := Ev.form0 hown6 hv6
                  simp only [Nat.zero_add, List.nil_append] at hown6 hnil6 hblk6 ⊢
                  have hb6 : Below w.heap.size w w6 := bgrown (baa hbx _) hgrow6 (fun k e => by cases e; exact hbx.size)
                  have hk6 : Ev.Own w6 w.heap.size (.slice (some ⟨g, 0, none⟩) S.length (q + 1)) S := (World.ownsRow.alloc HX6 _).kept hgrow6 (.inr (fun e => by have e2 : g = x6.heap.size := Option.some.inj e; omega))
                  refine settle (fun W => W.cell? ⟨b, off + k * 2, none⟩ = some (.int .i64 x1) ∧ W.cell? ⟨b, off + k * 2 + 1, none⟩ = some (.int .i64 x2) ∧ w.heap.size ≤ W.heap.size ∧ Below w.heap.size w W ∧ W.ownsRow w.heap.size 62 2 (.slice (some ⟨g, 0, none⟩) (q + 1) (q + 1)) (q + 1) (Ev.flat (S.take (q + 1))) ∧ W.ownsRow x6.heap.size 62 2 (.slice (some ⟨g6, 0, none⟩) 0 cap6) 0 (Ev.flat (S.drop (q + 1)))) ⟨(HCX.out _ hb6).1, (HCX.out _ hb6).2, hb6.size, hb6, ?_, hown6⟩ ?_
                  · have := Ev.own_take hk6 (q + 1) (by rw [HL.out]; omega)
                    unfold Ev.Own at this
                    rwa [List.length_take, HL.out, show min (q + 1) k = (q + 1) by omega] at this
                  rintro W9 ⟨c1, c2, hs9, hB9, HOP, hr9⟩
                  have hne : g6 ≠ g := by omega
                  clear hnil6 hv6 hblk6 hgrow6 hown6 hb6 hk6 hg7
                  go_region_law (first
                    | (refine step_append_any rfl (.tmp 38) (.tmp 43) 58 rfl w.heap.size 62 i0 (.agg #[.int .i64 0, .int .i64 0]) 2 16 (und_o Tryz.underlying58) hi hz0 hz1 hz2 rfl (by decide) (.slice (some ⟨g, 0, none⟩) (q + 1) (q + 1)) (q + 1) (Ev.flat (S.take (q + 1))) rfl (HOP.alloc _) _ 1 1 [.int .i64 x1, .int .i64 x2] rfl (by first | rfl | (exact HD.out) | (simp [Ev.flat_len]; done) | (simp [Ev.flat_len]; omega)) (ev_news _ x1 x2) (ev_one x1 x2) (by simp only [maxLen]; omega) (by omega) (by first | assumption | (simp; omega) | omega) ?_; intro v7 w7 hown7 hgrow7 hblk7)
                    | (refine step_append_any rfl (.tmp 44) (.tmp 45) 58 rfl w.heap.size 62 i0 (.agg #[.int .i64 0, .int .i64 0]) 2 16 (und_o Tryz.underlying58) hi hz0 hz1 hz2 rfl (by decide) v7 ((q + 1) + 1) (Ev.flat (S.take (q + 1)) ++ [.int .i64 x1, .int .i64 x2]) rfl hown7 ⟨g6, 0, none⟩ 0 cap6 (Ev.flat (S.drop (q + 1))) rfl (by first | rfl | (exact HD.out) | (simp [Ev.flat_len]; done) | (simp [Ev.flat_len]; omega)) (fun j u hj => World.grownBy.cell hgrow7 (World.ownsRow.cells (World.ownsRow.alloc hr9 _) rfl j u hj) (fun e => hne (Option.some.inj (show some g6 = some g by rw [Addr.add_lit] at e; exact e)))) (Ev.flat_one _) (by simp only [maxLen]; omega) (by omega) (by have h9 := hgrow7.size; simp at h9; omega) ?_; intro v8 w8 hown8 hgrow8 hblk8))
                  all_goals go_wp2_with fail
                  all_goals go_roundw
                  case rel =>
                    have hb8 : Below w.heap.size w w8 := bgrown (bgrown (bdrew (baa hB9 _)) hgrow7 (fun k e => by cases e; exact hg1)) hgrow8 (fun k e => (hown7.lt k e).1)
                    have hsp := Ev.srt_put (S := S) (x := (x1, x2)) (p := (q + 1)) (by rw [HL.out]; omega) HS.out.1 HP.out (fun z _ hz => by have hz2 : S[q]? = some z := hz; rw [HY.out] at hz2; cases hz2; exact HLT.out)
                    exact ⟨k + 1, _, by omega, by go_num, Ev.own_put2 HL.out (by omega) (by first | exact hown8 | (rw [show k - (q + 1) = 0 by omega]; exact hown8)), Lib.hid ⟨hsp.1, perm_next HX.out HS.out.2 hsp.2⟩, Lib.hid (.inr (by omega)), hb8⟩
                  case measure => simp [intOf]; omega
                )
              · skip
                have hBx := bt hBs hx6
                have hbx := bt hB hBx
                have HX6 := HOL.out.below hBx
                have hgx : g < x6.heap.size := by have := hBx.size; omega
                have HD : Hid ((Ev.flat (S.drop (q + 1))).length = (k - (q + 1)) * 2) := Lib.hid (by rw [Ev.flat_len, List.length_drop, HL.out]; try omega)
                have HZ : Hid (cap1 ≤ (q + 1) → Ev.flat (S.drop (q + 1)) = []) := Lib.hid (fun h => by rw [List.drop_eq_nil_of_le (by rw [HL.out]; omega)]; rfl)
                have HN : Hid (∀ j u, (Ev.flat (S.drop (q + 1)))[j]? = some u → (x6.alloc (.cells #[] 62)).cell? ((⟨g, (q + 1) * 2, none⟩ : Addr).add j) = some u) := Lib.hid (fun j u hj => by
                  rw [Addr.add_lit]
                  refine Lib.cell?_alloc_some _ ?_
                  have := World.ownsRow.cells HX6 rfl ((q + 1) * 2 + j) u (Ev.flat_drop S (q + 1) j u (by rw [HL.out]; omega) hj)
                  rw [Addr.add_lit, Nat.zero_add] at this
                  exact this)
                go_wp2_with (at_builtin; refine wpList_append_own_at _ rfl (.tmp 31) (.tmp 34) 58 rfl x6.heap.size 62 i0 (.agg #[.int .i64 0, .int .i64 0]) 2 16 (und_o Tryz.underlying58) hi hz0 hz1 hz2 rfl (by decide) _ 0 [] rfl (World.ownsRow_made x6 #[] 0 (Nat.le_refl _) (Nat.zero_le _) (by simp)) _ _ _ (Ev.flat (S.drop (q + 1))) rfl (by first | exact HD.out | (rw [HD.out]; done)) (by first | exact HN.out | exact (fun j u hj => absurd hj (by rw [HZ.out (by omega)]; simp))) (Ev.flat_one _) (by simp only [maxLen]; omega) (by omega) (by simp) ?_; intro v6 w6 hown6 hgrow6 hnil6 hblk6)
                all_goals (
                  have hv6 : v6 ≠ .slice none 0 0 := fun e => by have := (hnil6.1 e).1; cases this
                  obtain ⟨g6, cap6, rfl, hg6, hg7⟩ := Ev.form0 hown6 hv6
                  simp only [Nat.zero_add, List.nil_append] at hown6 hnil6 hblk6 ⊢
                  have hb6 : Below w.heap.size w w6 := bgrown (baa hbx _) hgrow6 (fun k e => by cases e; exact hbx.size)
                  have hk6 : Ev.Own w6 w.heap.size (.slice (some ⟨g, 0, none⟩) S.length cap1) S := (World.ownsRow.alloc HX6 _).kept hgrow6 (.inr (fun e => by have e2 : g = x6.heap.size := Option.some.inj e; omega))
                  refine settle (fun W => W.cell? ⟨b, off + k * 2, none⟩ = some (.int .i64 x1) ∧ W.cell? ⟨b, off + k * 2 + 1, none⟩ = some (.int .i64 x2) ∧ w.heap.size ≤ W.heap.size ∧ Below w.heap.size w W ∧ W.ownsRow w.heap.size 62 2 (.slice (some ⟨g, 0, none⟩) (q + 1) cap1) (q + 1) (Ev.flat (S.take (q + 1))) ∧ W.ownsRow x6.heap.size 62 2 (.slice (some ⟨g6, 0, none⟩) (k - (q + 1)) cap6) (k - (q + 1)) (Ev.flat (S.drop (q + 1)))) ⟨(HCX.out _ hb6).1, (HCX.out _ hb6).2, hb6.size, hb6, ?_, hown6⟩ ?_
                  · have := Ev.own_take hk6 (q + 1) (by rw [HL.out]; omega)
                    unfold Ev.Own at this
                    rwa [List.length_take, HL.out, show min (q + 1) k = (q + 1) by omega] at this
                  rintro W9 ⟨c1, c2, hs9, hB9, HOP, hr9⟩
                  have hne : g6 ≠ g := by omega
                  clear hnil6 hv6 hblk6 hgrow6 hown6 hb6 hk6 hg7
                  go_region_law (first
                    | (refine step_append_any rfl (.tmp 38) (.tmp 43) 58 rfl w.heap.size 62 i0 (.agg #[.int .i64 0, .int .i64 0]) 2 16 (und_o Tryz.underlying58) hi hz0 hz1 hz2 rfl (by decide) (.slice (some ⟨g, 0, none⟩) (q + 1) cap1) (q + 1) (Ev.flat (S.take (q + 1))) rfl (HOP.alloc _) _ 1 1 [.int .i64 x1, .int .i64 x2] rfl (by first | rfl | (exact HD.out) | (simp [Ev.flat_len]; done) | (simp [Ev.flat_len]; omega)) (ev_news _ x1 x2) (ev_one x1 x2) (by simp only [maxLen]; omega) (by omega) (by first | assumption | (simp; omega) | omega) ?_; intro v7 w7 hown7 hgrow7 hblk7)
                    | (refine step_append_any rfl (.tmp 44) (.tmp 45) 58 rfl w.heap.size 62 i0 (.agg #[.int .i64 0, .int .i64 0]) 2 16 (und_o Tryz.underlying58) hi hz0 hz1 hz2 rfl (by decide) v7 ((q + 1) + 1) (Ev.flat (S.take (q + 1)) ++ [.int .i64 x1, .int .i64 x2]) rfl hown7 ⟨g6, 0, none⟩ (k - (q + 1)) cap6 (Ev.flat (S.drop (q + 1))) rfl (by first | rfl | (exact HD.out) | (simp [Ev.flat_len]; done) | (simp [Ev.flat_len]; omega)) (fun j u hj => World.grownBy.cell hgrow7 (World.ownsRow.cells (World.ownsRow.alloc hr9 _) rfl j u hj) (fun e => hne (Option.some.inj (show some g6 = some g by rw [Addr.add_lit] at e; exact e)))) (Ev.flat_one _) (by simp only [maxLen]; omega) (by omega) (by have h9 := hgrow7.size; simp at h9; omega) ?_; intro v8 w8 hown8 hgrow8 hblk8))
                  all_goals go_wp2_with fail
                  all_goals go_roundw
                  case rel =>
                    have hb8 : Below w.heap.size w w8 := bgrown (bgrown (bdrew (baa hB9 _)) hgrow7 (fun k e => by cases e; exact hg1)) hgrow8 (fun k e => (hown7.lt k e).1)
                    have hsp := Ev.srt_put (S := S) (x := (x1, x2)) (p := (q + 1)) (by rw [HL.out]; omega) HS.out.1 HP.out (fun z _ hz => by have hz2 : S[q]? = some z := hz; rw [HY.out] at hz2; cases hz2; exact HLT.out)
                    exact ⟨k + 1, _, by omega, by go_num, Ev.own_put2 HL.out (by omega) (by first | exact hown8 | (rw [show k - (q + 1) = 0 by omega]; exact hown8)), Lib.hid ⟨hsp.1, perm_next HX.out HS.out.2 hsp.2⟩, Lib.hid (.inr (by omega)), hb8⟩
                  case measure => simp [intOf]; omega
                )
            · rw [hlt2] at HBf
              have HLT := Lib.hid hlt2
              clear hlt2
              rw [e0]
              clear e0
              go_wp2_with fail
              refine wp_region_class (by kernel_rfl) (by kernel_rfl) (fun hall => ?_)
              repeat (first | go_big_quiet_skip | (go_big_quiet_want; first | (refine quiet_load1 _ _ _ rfl rfl ?_ ?_ ?_; (focus (intro _; simp; done)); (focus (first | assumption | omega | (simp; done) | (simp; omega))); apply Exists.intro; refine ⟨?_, ?_⟩; assumption; go_simp; go_big_quiet_on) | (refine quiet_load2 _ _ _ _ rfl rfl ?_ ?_ ?_ ?_; (focus (intro _; simp; done)); (focus (intro _; simp; done)); (focus (first | assumption | omega | (simp; done) | (simp; omega))); apply Exists.intro; apply Exists.intro; refine ⟨?_, ?_, ?_⟩; assumption; assumption; go_simp; go_big_quiet_on) | (refine quiet_load3 _ _ _ _ rfl rfl ?_ ?_ ?_ ?_; (focus (intro _; simp; done)); (focus (intro _; simp; done)); (focus (first | assumption | omega | (simp; done) | (simp; omega))); apply Exists.intro; apply Exists.intro; apply Exists.intro; refine ⟨?_, ?_, ?_, ?_⟩; assumption; assumption; assumption; go_simp; go_big_quiet_on) | (refine quiet_load4 _ _ _ _ rfl rfl ?_ ?_ ?_ ?_; (focus (intro _; simp; done)); (focus (intro _; simp; done)); (focus (first | assumption | omega | (simp; done) | (simp; omega))); apply Exists.intro; apply Exists.intro; apply Exists.intro; apply Exists.intro; refine ⟨?_, ?_, ?_, ?_, ?_⟩; assumption; assumption; assumption; assumption; go_simp; go_big_quiet_on) | (go_big_quiet_op; first | go_big_quiet_on | (apply Exists.intro; refine ⟨fun x hx => ?_, ?_⟩; (first | (with_reducible exact call_below hx (HBf.out x)) | exact call_below hx (HBf.out x)); go_big_quiet_on))))
              refine wpQuiet_nil ?_
              clear hall
              intro x6 hx6
              go_wp2_with fail
              go_roundw
              case rel => exact ⟨q, by omega, rfl, Lib.hid (fun j z hj hz => by
                rcases Nat.lt_or_ge q j with c | c
                · exact HP.out j z c hz
                · obtain rfl : j = q := by omega
                  rw [HY.out] at hz
                  cases hz
                  exact HLT.out), bt hBs hx6⟩
              case measure => simp [intOf]
    · obtain rfl : k = n := by omega
      have hfin : Ev.sort l = S := Ev.sort_of HS.out.1 (by have := HS.out.2; rwa [List.take_of_length_le (by omega)] at this)
      have HF := Lib.hid hfin
      clear hfin
      go_wp2_with fail
      go_ret
      exact ⟨_, rfl, by rw [HF.out]; exact HO, hB⟩
theorem ref19_Sort (v : Value) (l : List (Int × Int)) (w : World) (h : Ev.Row w v l) (hl : l.length ≤ 1000) :
    Calls Tryo.prog 80 #[v] w fun e w' => ∃ v', e = .returned v' ∧ Ev.Own w' w.heap.size v' (Ev.sort l) ∧ Below w.heap.size w w' := by
  rcases h with ⟨rfl, rfl⟩ | ⟨b, off, cap, rfl, hc⟩
  · clear hl
    go_enter Tryo.func80, Tryz.ntmps80
    go_wp2_with fail
    go_loopw [3, 4] (fun v i wr => v = .slice none 0 0 ∧ i = .int .i64 0 ∧ wr = w) (fun _ _ _ => 0)
    case atStart => exact ⟨rfl, rfl, rfl⟩
    case round =>
      obtain ⟨rfl, rfl, rfl⟩ := hrel
      go_wp2_with fail
      go_ret
      exact ⟨_, rfl, Ev.Own.nil _ _, Below.refl _ _⟩
  · exact ref19_Sort_go b off cap _ l w hl rfl (Lib.hid hc)
end Go.Proofs.YtoofgalkchnpnaaGreatDoor
