/- The world's shape, handed on beside what the tables hold; the cell of MaxLen. -/
import Derived.Test.YtagmdglmflcegaaGreatDoorMaxA
import Derived.Handed
import Derived.Shelf.Vars
namespace Go.Proofs.YtagmdglmflcegaaGreatDoor
open Go.ChangeShapes Go.WideShapes Go.ChangeAt Go.RowKit
set_option linter.unusedVariables false
set_option maxRecDepth 100000
theorem handed_sha {a : Assume} {C : Checked} {os : Os} {f : FuncId} {fn : Func} {s : ChangeSpec} {conds : List PathCond} {apart fresh handsOn again : Bool} {H : Type} {enc : TypeId × Value → H} {X : World → Array Value → Prop}
    (keeps : ∀ (w w' : World) (ars : Array Value), w.heap = w'.heap → X w ars → X w' ars)
    (own : ownKnob C.prog.godebug = none) (st : os.Started) (noInit : C.prog.inits.idxOf? f = none) (hfn : C.prog.funcs[f]? = some fn)
    (wit : ∃ (w : World) (tape : Tape) (i : Input), w.os = os ∧ (w.forCall tape i).Shaped C.prog ∧ i.vars = [] ∧ Input.okWide C.prog (w.forCall tape i) .any w.heap.size f i ∧
      ((s.pre enc C.prog fn conds apart (w.forCall tape i).memory i.args ∧ X (w.forCall tape i).memory i.args) ∧ sizedMet enc C.prog fn (OpenSpec.ofChange s) apart (w.forCall tape i).memory i.args) ∧ a.holds C.prog (lone (Frame.enter C.prog f i.args .normal) [] (w.forCall tape i)))
    (walk : ∀ (W : World) (base : Nat) (ars : Array Value) (ds gs : List (DataW H)) (before : List MemPlace),
      (∀ (j : Nat) t v, fn.params[j]? = some t → ars[j]? = some v → Value.okWide C.prog W .any base t v) →
      DataW.Whole enc C.prog fn.params.toList s.vars apart W ars.toList ds gs before → X W ars → W.ShapedOpen C.prog →
      Calls C.prog f ars W fun e W' => ∃ v, e = .returned v ∧ s.post enc C.prog fn apart fresh handsOn again W ars v W') :
    ReturnsInHanded a C os f .any (fun w ars => (s.pre enc C.prog fn conds apart w ars ∧ X w ars) ∧ sizedMet enc C.prog fn (OpenSpec.ofChange s) apart w ars) (s.post enc C.prog fn apart fresh handsOn again) := by
  refine returnsInHanded_of_calls own st noInit wit fun w tape i _ shape _ ok pre _ => ?_
  obtain ⟨_, _, _, fn2, h2, _, _, _, _, vals⟩ := ok
  obtain rfl : fn2 = fn := Option.some.inj (h2.symm.trans hfn)
  obtain ⟨⟨⟨ds, gs, before, whole, _⟩, hx⟩, _⟩ := pre
  refine (walk _ w.heap.size i.args ds gs before vals (DataW.Whole.of_heap (by rfl) whole) (keeps _ _ _ (by rfl) hx) shape).mono ?_
  rintro e W' ⟨v, rfl, hp⟩
  exact ChangeSpec.post_blind hp
theorem maxAt_of {w : World} (h : w.ShapedOpen Tryz.prog) : ∃ m, MaxAt w m := by
  obtain ⟨m, hm⟩ := cell_of_shapedOpen_int (P := Tryz.prog) (g := 1) (t := 3) (zero := #[.int .i64 0]) (k := .i64) h (of_decide_eq_true (by kernel_rfl)) (by kernel_rfl) rfl (by kernel_rfl) (by kernel_rfl) Tryz.underlying3
  refine ⟨m, hm, ?_⟩
  by_cases c : 1 < w.heap.size
  · exact c
  · have e : w.heap[1]? = none := by simp; omega
    simp [World.cell?, e] at hm
end Go.Proofs.YtagmdglmflcegaaGreatDoor
