/- WholeFeasts: for every input the law answers true, where the listed package-level tables hold what the program's text lays in them (the card ties that). -/
import Derived.Test.YtgojeobnoebnlaaGreatDoorRows
import Derived.Test.YtgojeobnoebnlaaGreatDoorCards
import Derived.Test.YtgojeobnoebnlaaGreatDoorTie
import Derived.Test.YtgojeobnoebnlaaGreatDoorQEnter
import Derived.Test.YtgojeobnoebnlaaGreatDoorQBB
import Derived.Test.YtgojeobnoebnlaaGreatDoorQBB
import Derived.Test.YtgojeobnoebnlaaGreatDoorFWf
import Derived.Test.YtgojeobnoebnlaaGreatDoorQGT
import Derived.OpenShut
import Derived.LaidMore
import Derived.ProofKit
import Derived.Stop.Joined
import Derived.SevenTiedAt
set_option maxHeartbeats 8000000
set_option maxRecDepth 100000
set_option linter.unusedVariables false
namespace Go.Proofs.YtgojeobnoebnlaaGreatDoor.wholeFeasts
open Go.ChangeShapes Go.WideShapes Go.ChangeAt Go.RowKit
open Go.ChangeMaps (open_string shut_string)
theorem door_met (os : Os) : laidMetH Tryz.prog Rows.wholeFeastsRow.laid ((World.doorLaid Tryz.prog 143 os).forCall (fun _ _ => 0) ⟨#[], #[.int .u16 0, .int .u8 0], []⟩).memory :=
 laidMetH_of_parts3 (fuel := 8) (laidMet_of_run' 8 (by kernel_rfl) (by kernel_rfl)) (by kernel_rfl) (by kernel_rfl)
def lst : List Nat := [3, 5, 6, 7, 8, 9, 10, 11, 12, 13, 15, 17, 19, 20, 21, 22, 23, 24, 25, 26, 27, 28, 29, 30, 31, 32, 33, 34, 35, 36, 37, 39, 40, 43, 44, 45, 46, 47, 48, 49, 50, 51, 52, 53, 54, 55, 56, 57, 58, 59, 60, 61, 62, 63, 64, 65, 66, 67, 68, 69, 70, 71, 72, 73, 74, 75, 76, 82, 83, 84, 86, 87, 88, 89, 90, 91, 92, 93, 94, 95, 96, 97, 98, 99, 100, 101, 102, 103, 104, 105, 111, 112, 113, 122, 123, 124, 125, 126, 127, 128, 129, 130, 131, 132, 133, 134, 135, 136, 137, 138, 139, 158, 165, 166, 167, 168, 169, 170, 171, 181, 182, 184]
def glst : List Nat := [6, 3, 5, 0, 1, 4]
theorem okl : Sat.OkL lst glst := ⟨by kernel_rfl, by kernel_rfl, by kernel_rfl, by rfl⟩
theorem tab_plain {W : World} {g : Nat} {cs : List Value} (h : Tab W g cs) (hp : Go.Sq.objB (.cells cs.toArray 0 (0, 0)) = true) : Sat.PlainAt W g := by
 obtain ⟨t, h⟩ := h
 exact ⟨_, h, hp⟩
theorem lifted (os : Os) (started : os.Started) (H : Type) (enc : TypeId × Value → H) :
  ReturnsInLeavingWide {} Tryz.checked os 3 .any (fun w args => (Rows.wholeFeastsSpec.pre enc Tryz.prog Tryz.f3 [] false w args ∧ laidMetH Tryz.prog Rows.wholeFeastsRow.laid w) ∧ sizedMet enc Tryz.prog Tryz.f3 (OpenSpec.ofChange Rows.wholeFeastsSpec) false w args)
   (Rows.wholeFeastsSpec.post enc Tryz.prog Tryz.f3 false true false false) := by
 refine Go.Sq.leaving_and (C := Tryz.checked) (X := fun w _ => laidMetH Tryz.prog Rows.wholeFeastsRow.laid w) (fun _ _ _ hh h => h.of_heap hh) own started Tryz.func3
  (ChangeSpec.witness_shaped (enc := enc) (C := Tryz.checked) (os := os) (X := fun w _ => laidMetH Tryz.prog Rows.wholeFeastsRow.laid w) false (World.doorLaid Tryz.prog 143 os) #[.int .u16 0, .int .u8 0] 8 rfl (World.shaped_of_RefB (by kernel_rfl) (by kernel_rfl)) (by kernel_rfl) (by kernel_rfl) (by kernel_rfl) (door_met os)) ?_
 intro W base args ds gs before hval0 hW hL hsh
 have hval : ∀ (j : Nat) t v, Tryz.f3.params[j]? = some t → args[j]? = some v → Value.okWide Tryz.prog W .any base t v := hval0
 have hW' := hW
 obtain ⟨p, q, hA0, hV, rfl, hfz, hnd⟩ := hW
 have hA : DataW.TrodAll enc Tryz.prog W 0 (fun _ => true) true Tryz.f3.params.toList args.toList ds p := hA0
 rw [Tryz.params3] at hA hval
 obtain ⟨v0, vs0, d0, ds0, p0, q0, hargs, rfl, rfl, h0, r0⟩ := trodAll_cons hA
 obtain ⟨v1, vs1, d1, ds1, p1, q1, rfl, rfl, rfl, h1, r1⟩ := trodAll_cons r0
 obtain ⟨rfl, rfl, rfl⟩ := trodAll_nil r1
 obtain rfl : args = #[v0, v1] := by cases args; simp_all
 obtain ⟨rfl, rfl⟩ := trodVars_none hV
 obtain ⟨a0, rfl, rfl, rfl, w0⟩ := open_int Tryz.underlying22 (hval 0 22 v0 rfl rfl) h0
 obtain ⟨a1, rfl, rfl, rfl, w1⟩ := open_int Tryz.underlying5 (hval 1 5 v1 rfl rfl) h1
 clear hA0 hval0
 have tabs := tabs_of_laid (by kernel_rfl) (by kernel_rfl) hL
 have tab0 : Tab W 6 kevCells := (tabs).1 6 (by kernel_rfl)
 have tab1 : Tab W 3 lenCells := (tabs.2).1 3 (by kernel_rfl)
 have tab2 : Tab W 5 Gr.gregCells := (tabs.2.2).1 5 (by kernel_rfl)
 have tab3 : Tab W 0 Fe.cells := (tabs.2.2.2).1 0 (by kernel_rfl)
 have tab4 : Tab W 1 Fa.cells := (tabs.2.2.2.2).1 1 (by kernel_rfl)
 have tab5 : Tab W 4 powCells := (tabs.2.2.2.2.2).1 4 (by kernel_rfl)
 have hg : ∀ g ∈ glst, Sat.PlainAt W g := by
  intro g hg
  simp only [glst, List.mem_cons, List.not_mem_nil, or_false] at hg
  rcases hg with rfl | rfl | rfl | rfl | rfl | rfl
  ·exact tab_plain tab0 (by kernel_rfl)
  ·exact tab_plain tab1 (by kernel_rfl)
  ·exact tab_plain tab2 (by kernel_rfl)
  ·exact tab_plain tab3 (by kernel_rfl)
  ·exact tab_plain tab4 (by kernel_rfl)
  ·exact tab_plain tab5 (by kernel_rfl)
 obtain ⟨M, last, o, w', t', h1, h2, h3, h4⟩ := Sat.go_run okl (f := 3) (by decide) (by decide) (X := .bool true) hsh hg (by rfl) (fun τ d => WholeFeasts_walk a0 a1 (bounds_u16 w0) (bounds_u8 w1) (Go.Sq.tp W τ d) tab0 tab1 tab2 tab3 tab4 tab5)
 refine ⟨M, last, o, w', t', h1, h2, h3, h4.mono fun v hp => ?_⟩
 obtain ⟨rfl, bel⟩ := hp
 refine ChangeSpec.post_alike (W'' := Go.Sq.tp w' W.tape w'.drawn) ?_ ⟨rfl, rfl, rfl⟩
 exact ⟨_, _, _, [], _, [], hW', trodAll_mk1 (shut_bool Tryz.underlying4 _), (trodAll_cons_mk (shut_int Tryz.underlying22 w0) (trodAll_cons_mk (shut_int Tryz.underlying5 w1) trodAll_mk0)), rfl, bel.frame _, fun h => by cases h⟩
theorem facts : joinedFacts Tryz.pinned.checked.prog 3 Tryz.f3 Rows.wholeFeastsSpec Rows.wholeFeastsRow = true := by
 unfold joinedFacts
 repeat' (with_reducible refine and_t ?_ ?_)
 all_goals first | with_reducible exact mayEnterP | with_reducible exact laidOutP | with_reducible exact mapsRowedP | ((with_reducible rw [liftsFinalP]); rfl) | ((with_reducible rw [makeP]); rfl) | kernel_rfl
theorem over : Rows.wholeFeastsRow.holds Tryz.pinned (OpenSpec.ofChange Rows.wholeFeastsSpec) :=
 OpenClaim.holds_of_wide_leaving 3 Tryz.f3 rfl rfl rfl rfl rfl rfl rfl ⟨rfl, rfl, rfl, rfl, rfl⟩ rfl rfl rfl rfl rfl (by kernel_rfl) Tryz.func3 facts
  (of_decide_eq_true (by kernel_rfl)) (by unfold Func.isWrapper; rw [if_neg (of_decide_eq_false (by kernel_rfl))]; exact ⟨rfl, rfl⟩)
  (fun os started H enc _ => lifted os started H enc)
theorem plain (f : FuncId) (fn : Func) (hf : Tryz.pinned.checked.prog.funcNamed "almanacker/almanackertop.WholeFeasts" = some f) (hfn : Tryz.pinned.checked.prog.funcs[f]? = some fn) :
  false = Tryz.pinned.checked.prog.looks [] ∧ ∀ (j : Nat) t, fn.params[j]? = some t → Tryz.pinned.checked.prog.wantsStandIn t = false := by
 obtain rfl : f = 3 := Option.some.inj ((show Tryz.prog.funcNamed "almanacker/almanackertop.WholeFeasts" = some 3 by kernel_rfl).symm.trans hf) |>.symm
 obtain rfl : fn = Tryz.f3 := (Option.some.inj (Tryz.func3.symm.trans hfn)).symm
 refine ⟨by kernel_rfl, fun j t ht => ?_⟩
 rw [Tryz.params3] at ht
 have hall : ([22, 5].all fun u => !Tryz.prog.wantsStandIn u) = true := by kernel_rfl
 have hm : t ∈ [22, 5] := by simpa using Array.mem_of_getElem? ht
 exact (show Tryz.prog.wantsStandIn t = false by simpa using List.all_eq_true.1 hall t hm)
theorem wfB : Rows.wholeFeastsRow.wfByText (OpenSpec.ofChange Rows.wholeFeastsSpec) = true := by kernel_rfl
theorem goesB : true = Rows.wholeFeastsRow.goesBy Tryz.pinned.checked.prog := by kernel_rfl
theorem proved : Rows.WholeFeastsCardSaid :=
 Go.Sq.tied_goes .later _ _ _ _ over wfB wholeFeasts_row_tie rfl ⟨rfl, rfl⟩ mainIsP rfl plain goesB
end Go.Proofs.YtgojeobnoebnlaaGreatDoor.wholeFeasts
