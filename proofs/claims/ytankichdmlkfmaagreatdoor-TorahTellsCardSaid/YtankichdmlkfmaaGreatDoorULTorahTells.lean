/- TorahTells: for every input the law answers true, where the listed package-level tables hold what the program's text lays in them (the card ties that). -/
import Derived.Test.YtankichdmlkfmaaGreatDoorRows
import Derived.Test.YtankichdmlkfmaaGreatDoorCards
import Derived.Test.YtankichdmlkfmaaGreatDoorTie
import Derived.Test.YtankichdmlkfmaaGreatDoorUEnter
import Derived.Test.YtankichdmlkfmaaGreatDoorUBB
import Derived.Test.YtankichdmlkfmaaGreatDoorUBB
import Derived.Test.YtankichdmlkfmaaGreatDoorUW24t
import Derived.Test.YtankichdmlkfmaaGreatDoorUBaseQ
import Derived.Test.YtankichdmlkfmaaGreatDoorUGT
import Derived.OpenShut
import Derived.LaidMore
import Derived.ProofKit
import Derived.Stop.Joined
import Derived.SevenTiedAt
set_option linter.unusedVariables false
namespace Go.Proofs.YtankichdmlkfmaaGreatDoor.torahTells
open Go.ChangeShapes Go.WideShapes Go.ChangeAt Go.RowKit
open Go.ChangeMaps (open_string shut_string)
theorem door_met (os : Os) : laidMetH Tryz.prog Rows.torahTellsRow.laid ((World.doorLaid Tryz.prog 148 os).forCall (fun _ _ => 0) ⟨#[], #[.agg #[.int .i64 0, .int .i64 0, .int .i64 0, .int .i64 0]], []⟩).memory :=
 laidMetH_of_parts3 (fuel := 8) (laidMet_of_run' 8 (by kernel_rfl) (by kernel_rfl)) (by kernel_rfl) (by kernel_rfl)
def lst : List Nat := [3, 7, 8, 9, 10, 11, 12, 13, 14, 15, 16, 18, 21, 23, 24, 27, 28, 32, 34, 35, 36, 37, 38, 39, 40, 41, 42, 43, 44, 50, 58, 59, 60, 61, 64, 65, 66, 67, 68, 69, 75, 76, 77, 78, 79, 80, 81, 82, 83, 84, 85, 86, 87, 88, 89, 90, 91, 92, 93, 94, 95, 101, 102, 109, 110, 111, 112, 113, 114, 118, 119, 120, 121, 133, 134, 135, 136, 137, 138, 139, 140, 141, 142, 143, 144, 145, 146, 149, 150, 151, 157, 158, 159, 160, 161, 162, 168, 169, 170, 191, 192, 193, 194, 195, 196, 197, 198, 199, 200, 201, 202, 203, 204, 205, 206, 207, 208, 209, 210, 211, 212, 213, 214, 220, 221, 222, 223, 224, 225, 226, 227, 228, 229, 230, 231, 232, 233, 234, 235, 236, 237, 238, 239, 240, 241, 242, 243, 244, 245, 246]
def glst : List Nat := [7, 6, 2, 1, 0]
set_option maxRecDepth 100000 in
theorem okl : Sat.OkL lst glst := ⟨by kernel_rfl, by kernel_rfl, by kernel_rfl, by rfl⟩
theorem tab_plain {W : World} {g : Nat} {cs : List Value} (h : Tab W g cs) (hp : Go.Sq.objB (.cells cs.toArray 0 (0, 0)) = true) : Sat.PlainAt W g := by
 obtain ⟨t, h⟩ := h
 exact ⟨_, h, hp⟩
set_option maxRecDepth 100000 in
set_option maxHeartbeats 2000000 in
theorem lifted (os : Os) (started : os.Started) (H : Type) (enc : TypeId × Value → H) :
  ReturnsInLeavingWide {} Tryz.checked os 3 .any (fun w args => (Rows.torahTellsSpec.pre enc Tryz.prog Tryz.f3 [] false w args ∧ laidMetH Tryz.prog Rows.torahTellsRow.laid w) ∧ sizedMet enc Tryz.prog Tryz.f3 (OpenSpec.ofChange Rows.torahTellsSpec) false w args)
   (Rows.torahTellsSpec.post enc Tryz.prog Tryz.f3 false true false false) := by
 refine Go.Sq.leaving_and (C := Tryz.checked) (X := fun w _ => laidMetH Tryz.prog Rows.torahTellsRow.laid w) (fun _ _ _ hh h => h.of_heap hh) own started Tryz.func3
  (ChangeSpec.witness_shaped (enc := enc) (C := Tryz.checked) (os := os) (X := fun w _ => laidMetH Tryz.prog Rows.torahTellsRow.laid w) false (World.doorLaid Tryz.prog 148 os) #[.agg #[.int .i64 0, .int .i64 0, .int .i64 0, .int .i64 0]] 8 rfl (World.shaped_of_RefB (by kernel_rfl) (by kernel_rfl)) (by kernel_rfl) (by kernel_rfl) (by kernel_rfl) (door_met os)) ?_
 intro W base args ds gs before hval0 hW hL hsh
 have hval : ∀ (j : Nat) t v, Tryz.f3.params[j]? = some t → args[j]? = some v → Value.okWide Tryz.prog W .any base t v := hval0
 have hW' := hW
 obtain ⟨p, q, hA0, hV, rfl, hfz, hnd⟩ := hW
 have hA : DataW.TrodAll enc Tryz.prog W 0 (fun _ => true) true Tryz.f3.params.toList args.toList ds p := hA0
 rw [Tryz.params3] at hA hval
 obtain ⟨v0, vs0, d0, ds0, p0, q0, hargs, rfl, rfl, h0, r0⟩ := trodAll_cons hA
 obtain ⟨rfl, rfl, rfl⟩ := trodAll_nil r0
 obtain rfl : args = #[v0] := by cases args; simp_all
 obtain ⟨rfl, rfl⟩ := trodVars_none hV
 have k0 := h0
 have lt0 : ∀ x ∈ p0, x.block < W.heap.size := by obtain ⟨m, hm⟩ := k0; exact DataW.trod_lt m _ _ _ hm
 obtain ⟨a00, a01, a02, a03, rfl, w00, w01, w02, w03, _⟩ := open_Ask24 (hval 0 23 v0 rfl rfl) h0
 clear hA0 hval0
 have tabs := tabs_of_laid (by kernel_rfl) (by kernel_rfl) hL
 have tab0 : Tab W 7 kevCells := (tabs).1 7 (by kernel_rfl)
 have tab1 : Tab W 6 lenCells := (tabs.2).1 6 (by kernel_rfl)
 have tab2 : Tab W 2 Fe.cells := (tabs.2.2).1 2 (by kernel_rfl)
 have tab3 : Tab W 1 Rd.prCells := (tabs.2.2.2).1 1 (by kernel_rfl)
 have tab4 : Tab W 0 Rd.nmCells := (tabs.2.2.2.2).1 0 (by kernel_rfl)
 have hg : ∀ g ∈ glst, Sat.PlainAt W g := by
  intro g hg
  simp only [glst, List.mem_cons, List.not_mem_nil, or_false] at hg
  rcases hg with rfl | rfl | rfl | rfl | rfl
  ·exact tab_plain tab0 (by kernel_rfl)
  ·exact tab_plain tab1 (by kernel_rfl)
  ·exact tab_plain tab2 (by kernel_rfl)
  ·exact tab_plain tab3 (by kernel_rfl)
  ·exact tab_plain tab4 (by kernel_rfl)
 obtain ⟨M, last, o, w', t', h1, h2, h3, h4⟩ := Sat.go_run okl (f := 3) (by decide) (by decide) (X := .bool true) hsh hg (by simp [Go.Sq.avB, Go.Sq.avS]) (fun τ d => TorahTells_walk a00 a01 a02 a03 w00 w01 w02 w03 (Go.Sq.tp W τ d) tab0 tab1 tab2 tab3 tab4)
 refine ⟨M, last, o, w', t', h1, h2, h3, h4.mono fun v hp => ?_⟩
 obtain ⟨rfl, bel⟩ := hp
 refine ChangeSpec.post_alike (W'' := Go.Sq.tp w' W.tape w'.drawn) ?_ ⟨rfl, rfl, rfl⟩
 exact ⟨_, _, _, [], _, [], hW', trodAll_mk1 (shut_bool Tryz.underlying4 _), (trodAll_cons_mk (Below.trod laidOut (by kernel_rfl) (of_decide_eq_true (by kernel_rfl)) k0 bel lt0) trodAll_mk0), rfl, bel.frame _, fun h => by cases h⟩

theorem facts : joinedFacts Tryz.pinned.checked.prog 3 Tryz.f3 Rows.torahTellsSpec Rows.torahTellsRow = true := by
 unfold joinedFacts
 repeat' (with_reducible refine and_t ?_ ?_)
 all_goals first | with_reducible exact mayEnterP | with_reducible exact laidOutP | with_reducible exact mapsRowedP | ((with_reducible rw [liftsFinalP]); rfl) | ((with_reducible rw [makeP]); rfl) | kernel_rfl
theorem over : Rows.torahTellsRow.holds Tryz.pinned (OpenSpec.ofChange Rows.torahTellsSpec) :=
 OpenClaim.holds_of_wide_leaving 3 Tryz.f3 rfl rfl rfl rfl rfl rfl rfl ⟨rfl, rfl, rfl, rfl, rfl⟩ rfl rfl rfl rfl rfl (by kernel_rfl) Tryz.func3 facts
  (of_decide_eq_true (by kernel_rfl)) (by unfold Func.isWrapper; rw [if_neg (of_decide_eq_false (by kernel_rfl))]; exact ⟨rfl, rfl⟩)
  (fun os started H enc _ => lifted os started H enc)
theorem plain (f : FuncId) (fn : Func) (hf : Tryz.pinned.checked.prog.funcNamed "almanacker/almanackerlaw24.TorahTells" = some f) (hfn : Tryz.pinned.checked.prog.funcs[f]? = some fn) :
  false = Tryz.pinned.checked.prog.looks [] ∧ ∀ (j : Nat) t, fn.params[j]? = some t → Tryz.pinned.checked.prog.wantsStandIn t = false := by
 obtain rfl : f = 3 := Option.some.inj ((show Tryz.prog.funcNamed "almanacker/almanackerlaw24.TorahTells" = some 3 by kernel_rfl).symm.trans hf) |>.symm
 obtain rfl : fn = Tryz.f3 := (Option.some.inj (Tryz.func3.symm.trans hfn)).symm
 refine ⟨by kernel_rfl, fun j t ht => ?_⟩
 rw [Tryz.params3] at ht
 have hall : ([23].all fun u => !Tryz.prog.wantsStandIn u) = true := by kernel_rfl
 have hm : t ∈ [23] := by simpa using Array.mem_of_getElem? ht
 exact (show Tryz.prog.wantsStandIn t = false by simpa using List.all_eq_true.1 hall t hm)
theorem wfB : Rows.torahTellsRow.wfByText (OpenSpec.ofChange Rows.torahTellsSpec) = true := by kernel_rfl
theorem goesB : true = Rows.torahTellsRow.goesBy Tryz.pinned.checked.prog := by kernel_rfl
theorem proved : Rows.TorahTellsCardSaid :=
 Go.Sq.tied_goes .later _ _ _ _ over wfB torahTells_row_tie rfl ⟨rfl, rfl⟩ mainIsP rfl plain goesB
end Go.Proofs.YtankichdmlkfmaaGreatDoor.torahTells
