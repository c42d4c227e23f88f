/- Layer 9: the document's codes. -/
import Derived.Test.YtncckpfenjokmaaDoorCodeG
import Derived.Test.YtncckpfenjokmaaDoorOwn
import Derived.Test.YtncckpfenjokmaaDoorReg
namespace Go.Proofs.YtncckpfenjokmaaDoor
open Go.ChangeShapes Go.WideShapes Go.ChangeAt Go.RowKit
set_option linter.unusedVariables false
set_option maxRecDepth 100000

theorem ref9_Right_ok (n : Int) (w : World) (h1 : 1 ≤ n) (h2 : n ≤ 12) : Calls Tryd.prog 83 #[.agg #[.int .i64 n, .bool false]] w fun e w' => e = .returned (.bool true) ∧ Below w.heap.size w w' := by
  go_enter Tryd.func83, Tryd.ntmps83
  go_wp2_with fail

  go_ret
  exact ⟨rfl, ba _ _⟩
theorem ref9_Right_leap (w : World) : Calls Tryd.prog 83 #[.agg #[.int .i64 5, .bool true]] w fun e w' => e = .returned (.bool true) ∧ Below w.heap.size w w' := by
  go_enter Tryd.func83, Tryd.ntmps83
  go_wp2_with fail
  go_ret
  exact ⟨rfl, ba _ _⟩
theorem ref9_Right_no (n : Int) (l : Bool) (w : World) (h : Cal.right n l = false) : Calls Tryd.prog 83 #[.agg #[.int .i64 n, .bool l]] w fun e w' => e = .returned (.bool false) ∧ Below w.heap.size w w' := by
  rw [Cal.right, decide_eq_false_iff_not] at h
  rcases (show n < 1 ∨ (1 ≤ n ∧ 12 < n) ∨ (1 ≤ n ∧ n ≤ 12 ∧ ¬ n = 5 ∧ l = true) by cases l <;> simp at h ⊢ <;> omega) with c | ⟨c1, c2⟩ | ⟨c1, c2, c3, rfl⟩
  · skip
    go_enter Tryd.func83, Tryd.ntmps83
    go_wp2_with fail
    go_ret
    exact ⟨rfl, ba _ _⟩
  · skip
    go_enter Tryd.func83, Tryd.ntmps83
    go_wp2_with fail
    go_ret
    exact ⟨rfl, ba _ _⟩
  · have c4 : (n == 5) = false := by rw [beq_eq_false_iff_ne]; exact c3
    go_enter Tryd.func83, Tryd.ntmps83
    go_wp2_with fail
    go_ret
    exact ⟨rfl, ba _ _⟩
theorem ref9_Right_any (n : Int) (l : Bool) (w : World) : Calls Tryd.prog 83 #[.agg #[.int .i64 n, .bool l]] w fun e w' => e = .returned (.bool (Cal.right n l)) ∧ Below w.heap.size w w' := by
  cases h : Cal.right n l
  · exact ref9_Right_no n l w h
  · rcases right_cases n l h with ⟨h1, h2, rfl⟩ | ⟨rfl, rfl⟩
    · exact ref9_Right_ok n w h1 h2
    · exact ref9_Right_leap w
theorem ref9_Less_any (n k : Int) (l h : Bool) (w : World) : Calls Tryd.prog 69 #[.agg #[.int .i64 n, .bool l], .agg #[.int .i64 k, .bool h]] w fun e w' => e = .returned (.bool (Cal.lessV n l k h)) ∧ Below w.heap.size w w' := by
  rcases (show n < k ∨ n = k ∨ (¬ n < k ∧ ¬ n = k) by omega) with c | rfl | ⟨c1, c2⟩
  · rw [show Cal.lessV n l k h = true by simp [Cal.lessV, c]]
    go_enter Tryd.func69, Tryd.ntmps69
    go_wp2_with fail
    go_ret
    exact ⟨rfl, baa (ba _ _) _⟩
  · rw [show Cal.lessV n l n h = (!l && h) by simp [Cal.lessV]]
    cases l <;> cases h
    all_goals
      go_enter Tryd.func69, Tryd.ntmps69
      go_wp2_with fail
      go_ret
      exact ⟨rfl, baa (ba _ _) _⟩
  · rw [show Cal.lessV n l k h = false by simp [Cal.lessV, c2]; omega]
    have c3 : (n == k) = false := by rw [beq_eq_false_iff_ne]; exact c2
    go_enter Tryd.func69, Tryd.ntmps69
    go_wp2_with fail
    go_ret
    exact ⟨rfl, baa (ba _ _) _⟩
/-- The codes of a year's months, as far as the k-th plain one. -/
def codesTo (lp : Bool) : Nat → List (Int × Bool)
  | 0 => []
  | k + 1 => codesTo lp k ++ (((k : Int) + 1, false) :: if k = 4 ∧ lp = true then [(5, true)] else [])
def cells2 (xs : List (Int × Bool)) : List Value := xs.flatMap fun c => [.int .i64 c.1, .bool c.2]
theorem cells2_app (xs ys : List (Int × Bool)) : cells2 (xs ++ ys) = cells2 xs ++ cells2 ys := by simp [cells2]
theorem cells2_len (xs : List (Int × Bool)) : (cells2 xs).length = xs.length * 2 := by
  induction xs with
  | nil => rfl
  | cons x xs ih => show (_ :: _ :: cells2 xs).length = _; simp [ih, Nat.succ_mul]
theorem cells2_at : ∀ (xs : List (Int × Bool)) (i : Nat) c, xs[i]? = some c → (cells2 xs)[i * 2]? = some (.int .i64 c.1) ∧ (cells2 xs)[i * 2 + 1]? = some (.bool c.2)
  | [], i, c, h => by simp at h
  | x :: xs, 0, c, h => by
    simp only [List.getElem?_cons_zero, Option.some.injEq] at h
    subst h
    exact ⟨rfl, rfl⟩
  | x :: xs, i + 1, c, h => by
    have ih := cells2_at xs i c (by simpa using h)
    show (_ :: _ :: cells2 xs)[(i + 1) * 2]? = _ ∧ (_ :: _ :: cells2 xs)[(i + 1) * 2 + 1]? = _
    rw [show (i + 1) * 2 = i * 2 + 1 + 1 by omega, show i * 2 + 1 + 1 + 1 = i * 2 + 1 + 1 + 1 from rfl]
    simpa using ih
theorem codesTo_len (lp : Bool) : ∀ k, k ≤ (codesTo lp k).length ∧ (codesTo lp k).length ≤ 2 * k
  | 0 => by simp [codesTo]
  | k + 1 => by
    have ih := codesTo_len lp k
    simp only [codesTo, List.length_append, List.length_cons]
    split <;> simp <;> omega
/-- A slice that holds these codes, in a block of its own. -/
def Codes (w : World) (B : Nat) (v : Value) (xs : List (Int × Bool)) : Prop := ∃ g cap, v = .slice (some ⟨g, 0, none⟩) xs.length cap ∧ xs.length ≤ cap ∧ B ≤ g ∧ g < w.heap.size ∧ ∀ (j : Nat) c, xs[j]? = some c → w.cell? ⟨g, j * 2, none⟩ = some (.int .i64 c.1) ∧ w.cell? ⟨g, j * 2 + 1, none⟩ = some (.bool c.2)
theorem codes_of_own {w : World} {B n e : Nat} {v : Value} {xs : List (Int × Bool)} (h : w.ownsRow B e 2 v n (cells2 xs)) (hn : n = xs.length) (h0 : 0 < n) : Codes w B v xs := by
  obtain ⟨g, cap, rfl, hle, hlt⟩ := h.form h0
  have hc := fun j hj => h.cellAt (g := g) (cap := cap) j hj
  obtain ⟨_, h2⟩ := h
  rcases h2 with ⟨h, _⟩ | ⟨g', cap', cur, hv, h1, h2, h3, h4, h5, h6⟩
  · cases h
  · simp only [Value.slice.injEq, Option.some.injEq, Addr.mk.injEq, and_true, true_and] at hv
    obtain ⟨rfl, rfl⟩ := hv
    subst hn
    refine ⟨_, _, rfl, h3, h1, (Array.getElem?_eq_some_iff.1 h2).1, fun j c hj => ?_⟩
    have hl := (List.getElem?_eq_some_iff.1 hj).1
    obtain ⟨e1, e2⟩ := cells2_at xs j c hj
    exact ⟨(hc (j * 2) (by omega)).trans e1, (hc (j * 2 + 1) (by omega)).trans e2⟩
theorem A_infoCode : (Tryd.prog.info? 37).map (fun i => (i.zero, i.size, i.bytes)) = some (some (.agg #[.int .i64 0, .bool false]), 2, 16) := by kernel_rfl
theorem news2 (w : World) (n : Int) (l : Bool) (t : TypeId) : ∀ j u, [Value.int .i64 n, .bool l][j]? = some u → (w.alloc (.cells #[.int .i64 n, .bool l] t)).cell? ((⟨w.heap.size, 0, none⟩ : Addr).add j) = some u :=
  news_at w #[.int .i64 n, .bool l] t w.heap.size rfl
theorem one2 (n : Int) (l : Bool) : ∀ u ∈ [Value.int .i64 n, .bool l], u.oneCell' = true := by
  intro u hu
  simp only [List.mem_cons, List.not_mem_nil, or_false] at hu
  rcases hu with rfl | rfl <;> rfl
theorem grow_own {w a b : World} {e s n : Nat} {v : Value} {xs : List Value} (h : Below w.heap.size w a) (ho : a.ownsRow w.heap.size e s v n xs) (hg : (a).grownBy b v.ownBlock) : Below w.heap.size w b := h.grown hg h.size (fun k hk => (ho.lt k hk).1)
set_option maxHeartbeats 1000000 in
set_option maxRecDepth 100000 in
theorem ref9_codes (lp : Bool) (w : World) : Calls Tryd.prog 128 #[.bool lp] w fun e w' => ∃ v, e = .returned v ∧ Codes w' w.heap.size v (codesTo lp 12) ∧ Below w.heap.size w w' := by
  obtain ⟨i0, hi, hz0, hz1, hz2⟩ := info_parts A_infoCode
  go_enter Tryd.func128, Tryd.ntmps128
  go_wp2_with fail
  go_loopw [3, 4] (fun v n wr => ∃ k : Nat, k ≤ 12 ∧ n = .int .i64 ((k : Int) + 1) ∧ wr.ownsRow w.heap.size 37 2 v (codesTo lp k).length (cells2 (codesTo lp k)) ∧ Below w.heap.size w wr) (fun _ n _ => 13 - (intOf n).toNat)
  case atStart => exact ⟨0, by omega, rfl, World.ownsRow_nil _ _ _ _, Below.refl _ _⟩
  case round =>
    obtain ⟨k, hk, rfl, hown, hB⟩ := hrel
    have hlen := codesTo_len lp k
    have hsz := hB.size
    obtain ⟨L, hL⟩ : ∃ L, (codesTo lp k).length = L := ⟨_, rfl⟩
    rw [hL] at hown hlen
    obtain ⟨C, hC⟩ : ∃ C, cells2 (codesTo lp k) = C := ⟨_, rfl⟩
    rw [hC] at hown
    by_cases hlt : k < 12
    · have HR : Hid (∀ (v : Value) (w' : World), (k = 4 ∧ lp = true → False) → w'.ownsRow w.heap.size 37 2 v (L + 1) (C ++ [.int .i64 ((k : Int) + 1), .bool false]) → w'.ownsRow w.heap.size 37 2 v (codesTo lp (k + 1)).length (cells2 (codesTo lp (k + 1)))) := fun v w' hn h => by
        have e : codesTo lp (k + 1) = codesTo lp k ++ [((k : Int) + 1, false)] := by simp only [codesTo]; rw [if_neg hn]
        rw [e, cells2_app, hC, List.length_append, hL]
        exact h
      have HR2 : Hid (∀ (v : Value) (w' : World), k = 4 ∧ lp = true → w'.ownsRow w.heap.size 37 2 v (L + 1 + 1) (C ++ [.int .i64 ((k : Int) + 1), .bool false] ++ [.int .i64 5, .bool true]) → w'.ownsRow w.heap.size 37 2 v (codesTo lp (k + 1)).length (cells2 (codesTo lp (k + 1)))) := fun v w' hn h => by
        have e : codesTo lp (k + 1) = codesTo lp k ++ [((k : Int) + 1, false), (5, true)] := by simp only [codesTo]; rw [if_pos hn]
        rw [e, cells2_app, hC, List.length_append, hL]
        have e2 : cells2 [((k : Int) + 1, false), (5, true)] = [.int .i64 ((k : Int) + 1), .bool false] ++ [.int .i64 5, .bool true] := rfl
        rw [e2, ← List.append_assoc]
        exact h
      have HN := Lib.hid hlt
      clear hL hC
      by_cases h5 : k = 4 ∧ lp = true
      · have HH := Lib.hid h5
        obtain ⟨rfl, rfl⟩ := h5
        go_wp2_with (first | (at_builtin; refine wpList_append_own _ rfl (.tmp 9) (.tmp 12) _ rfl w.heap.size 37 i0 (.agg #[.int .i64 0, .bool false]) 2 16 Tryd.underlying140 hi hz0 hz1 hz2 rfl (by decide) _ (L) (C) rfl (hown.alloc _) ⟨wr.heap.size, 0, none⟩ 1 1 [.int .i64 (((4 : Nat) : Int) + 1), .bool false] rfl rfl (news2 _ _ _ _) (one2 _ _) (by simp only [maxLen]; omega) (by omega) (by simp; omega) ?_; intro v1 w1 hown1 hgrow1 _) | (at_builtin; refine wpList_append_own _ rfl (.tmp 19) (.tmp 21) _ rfl w.heap.size 37 i0 (.agg #[.int .i64 0, .bool false]) 2 16 Tryd.underlying140 hi hz0 hz1 hz2 rfl (by decide) _ (L + 1) (C ++ [.int .i64 (((4 : Nat) : Int) + 1), .bool false]) rfl (hown1.alloc _) ⟨w1.heap.size, 0, none⟩ 1 1 [.int .i64 (5), .bool true] rfl rfl (news2 _ _ _ _) (one2 _ _) (by simp only [maxLen]; omega) (by omega) (by have := hgrow1.size; simp at this ⊢; omega) ?_; intro v2 w2 hown2 hgrow2 _))
        go_roundw
        case rel => exact ⟨4 + 1, by omega, by go_num, HR2.out _ _ HH.out hown2, grow_own (baa (grow_own (baa hB _) (hown.alloc _) hgrow1) _) (hown1.alloc _) hgrow2⟩
        case measure => simp [intOf]
      · have HH := Lib.hid h5
        have h6 : (((k : Int) + 1 == 5) = false) ∨ (lp = false) := by
          by_cases hk4 : k = 4
          · right; cases lp <;> simp_all
          · left; rw [beq_eq_false_iff_ne]; omega
        clear h5
        rcases h6 with h6 | rfl
        all_goals
          go_wp2_with ((at_builtin; refine wpList_append_own _ rfl (.tmp 9) (.tmp 12) _ rfl w.heap.size 37 i0 (.agg #[.int .i64 0, .bool false]) 2 16 Tryd.underlying140 hi hz0 hz1 hz2 rfl (by decide) _ (L) (C) rfl (hown.alloc _) ⟨wr.heap.size, 0, none⟩ 1 1 [.int .i64 ((k : Int) + 1), .bool false] rfl rfl (news2 _ _ _ _) (one2 _ _) (by simp only [maxLen]; omega) (by omega) (by simp; omega) ?_; intro v1 w1 hown1 hgrow1 _))
        all_goals go_roundw
        all_goals first
          | exact ⟨k + 1, by omega, by go_num, HR.out _ _ (fun h => HH.out h) hown1, grow_own (baa hB _) (hown.alloc _) hgrow1⟩
          | (simp [intOf]; omega)
    · obtain rfl : k = 12 := by omega
      have HLC := Lib.hid (And.intro hL hC)
      clear hL hC
      go_wp2_with fail
      go_ret
      exact ⟨_, rfl, codes_of_own (HLC.out.2 ▸ HLC.out.1 ▸ hown) rfl (by rw [HLC.out.1]; omega), hB⟩
end Go.Proofs.YtncckpfenjokmaaDoor
