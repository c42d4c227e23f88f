/- Layer 19: feast.Same. -/
import Derived.Test.YtagmdglmflcegaaDoorEvR
import Derived.Shelf.SlicesQ.Equal
namespace Go.Proofs.YtagmdglmflcegaaDoor
open Go.ChangeShapes Go.WideShapes Go.ChangeAt Go.RowKit Go.Lib Go.Sort Go.Shelf
set_option linter.unusedVariables false
set_option maxRecDepth 100000
theorem ev_allEq : ∀ (l m : List (Int × Int)), Go.Lib.allEq (fun x y => decide (x = y)) l m = decide (l = m)
  | [], [] => by simp [Go.Lib.allEq]
  | [], _ :: _ => by simp [Go.Lib.allEq]
  | _ :: _, [] => by simp [Go.Lib.allEq]
  | x :: l, y :: m => by
    unfold Go.Lib.allEq
    rw [ev_allEq l m, ← Bool.decide_and]
    simp
theorem ev_neq : NeqAt Tryd.prog 38 (fun x : Int × Int => .agg (Ev.enc x).toArray) (fun x y => decide (x = y)) := by
  refine ⟨fun x y w => ?_, GuardAt.agg _ (by kernel_rfl)⟩
  obtain ⟨x1, x2⟩ := x
  obtain ⟨y1, y2⟩ := y
  have e : (!decide ((x1, x2) = (y1, y2))) = !(x1 == y1 && x2 == y2) := by
    congr 1
    rw [Bool.eq_iff_iff]; simp
  rw [e]
  show Sem.run _ (binOp .neq 38 (.agg #[.int .i64 x1, .int .i64 x2]) (.agg #[.int .i64 y1, .int .i64 y2])) w = _
  go_simp
  by_cases c1 : x1 = y1
  · by_cases c2 : x2 = y2
    · simp [c1, c2]
    · simp [c1, c2]
  · simp [c1]
set_option maxHeartbeats 4000000 in
theorem ev_Equal_ne (p q : Option Addr) (n m c d : Nat) (w : World) (h : ((n : Int) != (m : Int)) = true) :
    Calls Tryd.prog 54 #[.slice p n c, .slice q m d] w fun e w' => e = .returned (.bool false) ∧ Below w.heap.size w w' := by
  go_enter Tryd.func54, Tryd.ntmps54
  go_wp2_with fail
  go_ret
  exact ⟨rfl, Below.refl _ _⟩
set_option maxHeartbeats 4000000 in
theorem ev_Equal_zero (p q : Option Addr) (c d : Nat) (w : World) :
    Calls Tryd.prog 54 #[.slice p 0 c, .slice q 0 d] w fun e w' => e = .returned (.bool true) ∧ Below w.heap.size w w' := by
  go_enter Tryd.func54, Tryd.ntmps54
  go_wp2_with fail
  go_loopw [13] (fun i wr => i = .int .i64 0 ∧ wr = w) (fun _ _ => 0)
  case atStart => exact ⟨rfl, rfl⟩
  case round =>
    obtain ⟨rfl, rfl⟩ := hrel
    go_wp2_with fail
    go_ret
    exact ⟨rfl, Below.refl _ _⟩
theorem ev_at {w : World} {b off : Nat} {l : List (Int × Int)} (h : ∀ j u, (Ev.flat l)[j]? = some u → w.cell? ⟨b, off + j, none⟩ = some u) : ∀ j, j < l.length → ∀ i v, (Ev.enc l[j]!)[i]? = some v → w.cell? ⟨b, off + j * 2 + i, none⟩ = some v := fun j hj i v hi => by
  have hx : l[j]? = some l[j]! := by rw [List.getElem?_eq_getElem hj, List.getElem!_eq_getElem?_getD, List.getElem?_eq_getElem hj]; rfl
  obtain ⟨h1, h2⟩ := Ev.cells_at h j _ hx
  generalize l[j]! = z at *
  match i, hi with
  | 0, hi => simp [Ev.enc] at hi; rw [← hi, Nat.add_zero]; exact h1
  | 1, hi => simp [Ev.enc] at hi; rw [← hi]; exact h2
  | k + 2, hi => simp [Ev.enc] at hi
theorem ev_Equal (v c : Value) (l m : List (Int × Int)) (w : World) (h : Ev.Row w v l) (h' : Ev.Row w c m) (hl : l.length ≤ 100000) (hm : m.length ≤ 100000) :
    Calls Tryd.prog 54 #[v, c] w fun e w' => e = .returned (.bool (decide (l = m))) ∧ Below w.heap.size w w' := by
  by_cases hn : l.length = m.length
  · by_cases h0 : 0 < l.length
    · obtain ⟨b1, o1, c1, rfl, hc1⟩ := h.at_some h0
      obtain ⟨b2, o2, c2, rfl, hc2⟩ := h'.at_some (by omega)
      refine Calls.mono (AnyQ.slices_Equal Tryd.layEqual 2 Tryd.isAgg38 Tryd.sizeOf38 Ev.enc (fun _ => rfl) (fun x y => decide (x = y)) ev_neq b1 o1 l.length c1 b2 o2 m.length c2 l m w (Nat.le_refl _) (Nat.le_refl _) (by omega) (by omega) (ev_at hc1) (ev_at hc2)) ?_
      rintro e w' ⟨rfl, q, rfl⟩
      rw [List.take_length, List.take_length, ev_allEq]
      exact ⟨rfl, rfl, rfl, rfl, Nat.le_refl _, fun _ _ => rfl⟩
    · have e1 : l = [] := List.eq_nil_of_length_eq_zero (by omega)
      have e2 : m = [] := List.eq_nil_of_length_eq_zero (by omega)
      subst e1; subst e2
      obtain ⟨p, c1, rfl⟩ := h.len
      obtain ⟨q, c2, rfl⟩ := h'.len
      exact ev_Equal_zero p q c1 c2 w
  · obtain ⟨p, c1, rfl⟩ := h.len
    obtain ⟨q, c2, rfl⟩ := h'.len
    rw [decide_eq_false (fun e => hn (by rw [e]))]
    exact ev_Equal_ne p q _ _ c1 c2 w (by rw [bne_iff_ne]; omega)
theorem feast_Same (v c : Value) (l m : List (Int × Int)) (w : World) (h : Ev.Row w v l) (h' : Ev.Row w c m) (hl : l.length ≤ 100000) (hm : m.length ≤ 100000) :
    Calls Tryd.prog 20 #[v, c] w fun e w' => e = .returned (.bool (decide (l = m))) ∧ Below w.heap.size w w' := by
  have HE := Lib.hid (ev_Equal v c l m w h h' hl hm)
  clear h h' hl hm
  generalize decide (l = m) = vv at *
  go_enter Tryd.func20, Tryd.ntmps20
  go_wp2_with fail
  refine HE.out.mono ?_
  rintro e w1 ⟨rfl, hb1⟩
  go_wp2_with fail
  go_ret
  exact ⟨rfl, hb1⟩
end Go.Proofs.YtagmdglmflcegaaDoor
