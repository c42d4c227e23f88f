/- WholeDates: for every input the law answers true, where the listed package-level tables hold what the program's text lays in them (the card ties that). -/
import Derived.Test.YthnjjcoahdhmnaaGreatDoorRows
import Derived.Test.YthnjjcoahdhmnaaGreatDoorCards
import Derived.Test.YthnjjcoahdhmnaaGreatDoorTie
import Derived.Test.YthnjjcoahdhmnaaGreatDoorOEnter
import Derived.Test.YthnjjcoahdhmnaaGreatDoorOBB
import Derived.Test.YthnjjcoahdhmnaaGreatDoorOW28E
import Derived.Test.YthnjjcoahdhmnaaGreatDoorOBaseW
import Derived.Test.YthnjjcoahdhmnaaGreatDoorONA
import Derived.Test.YthnjjcoahdhmnaaGreatDoorOGT
import Derived.OpenShut
import Derived.LaidMore
import Derived.ProofKit
import Derived.Stop.Joined
import Derived.SevenTiedAt
set_option maxHeartbeats 8000000
set_option maxRecDepth 100000
set_option linter.unusedVariables false
namespace Go.Proofs.YthnjjcoahdhmnaaGreatDoor.wholeDates
open Go.ChangeShapes Go.WideShapes Go.ChangeAt Go.RowKit
open Go.ChangeMaps (open_string shut_string)
theorem door_met (os : Os) : laidMetH Tryz.prog Rows.wholeDatesRow.laid ((World.doorLaid Tryz.prog 168 os).forCall (fun _ _ => 0) ⟨#[], #[.agg #[.int .i64 0, .int .i64 0, .bool false, .int .i64 0], .agg #[.int .i64 0, .int .i64 0, .bool false, .int .i64 0]], []⟩).memory :=
 laidMetH_of_parts3 (fuel := 8) (laidMet_of_run' 8 (by kernel_rfl) (by kernel_rfl)) (by kernel_rfl) (by kernel_rfl)
def lst : List Nat := [4, 15, 16, 17, 18, 19, 20, 21, 22, 23, 24, 27, 28, 31, 38, 42, 51, 52, 53, 54, 55, 56, 57, 58, 59, 60, 61, 62, 63, 64, 65, 66, 67, 68, 69, 70, 71, 72, 73, 74, 83, 84, 85, 87, 88, 102, 103, 105, 106, 107, 108, 109, 111, 112, 113, 125, 126, 127, 128, 129, 130, 131, 132, 133, 134, 135, 136, 137, 138, 139, 140, 141, 142, 143, 144, 145, 146, 152, 153, 154, 155, 156, 157, 158, 173, 174, 175, 176, 177, 178, 182, 183, 184, 191, 192, 193, 194, 195, 196, 197, 198, 207, 208, 209, 210, 211, 212, 213, 222, 223, 224, 231, 232, 233, 234, 235, 236, 237, 238, 239, 240, 241, 243, 244, 245, 246, 247, 262, 263, 264, 265, 270, 271, 272, 274, 275, 276, 277, 278, 279, 280, 281, 282, 305, 306, 307, 308, 309, 310, 316, 317]
def glst : List Nat := [11, 12, 7, 5, 8, 4, 0, 3, 2]
theorem okl : Sat.OkL lst glst := ⟨by kernel_rfl, by kernel_rfl, by kernel_rfl, by rfl⟩
theorem tab_plain {W : World} {g : Nat} {cs : List Value} (h : Tab W g cs) (hp : Go.Sq.objB (.cells cs.toArray 0 (0, 0)) = true) : Sat.PlainAt W g := by
 obtain ⟨t, h⟩ := h
 exact ⟨_, h, hp⟩
theorem lifted (os : Os) (started : os.Started) (H : Type) (enc : TypeId × Value → H) :
  ReturnsInLeavingWide {} Tryz.checked os 4 .any (fun w args => (Rows.wholeDatesSpec.pre enc Tryz.prog Tryz.f4 [] false w args ∧ laidMetH Tryz.prog Rows.wholeDatesRow.laid w) ∧ sizedMet enc Tryz.prog Tryz.f4 (OpenSpec.ofChange Rows.wholeDatesSpec) false w args)
   (Rows.wholeDatesSpec.post enc Tryz.prog Tryz.f4 false true false false) := by
 refine Go.Sq.leaving_and (C := Tryz.checked) (X := fun w _ => laidMetH Tryz.prog Rows.wholeDatesRow.laid w) (fun _ _ _ hh h => h.of_heap hh) own started Tryz.func4
  (ChangeSpec.witness_shaped (enc := enc) (C := Tryz.checked) (os := os) (X := fun w _ => laidMetH Tryz.prog Rows.wholeDatesRow.laid w) false (World.doorLaid Tryz.prog 168 os) #[.agg #[.int .i64 0, .int .i64 0, .bool false, .int .i64 0], .agg #[.int .i64 0, .int .i64 0, .bool false, .int .i64 0]] 8 rfl (World.shaped_of_RefB (by kernel_rfl) (by kernel_rfl)) (by kernel_rfl) (by kernel_rfl) (by kernel_rfl) (door_met os)) ?_
 intro W base args ds gs before hval0 hW hL hsh
 have hval : ∀ (j : Nat) t v, Tryz.f4.params[j]? = some t → args[j]? = some v → Value.okWide Tryz.prog W .any base t v := hval0
 have hW' := hW
 obtain ⟨p, q, hA0, hV, rfl, hfz, hnd⟩ := hW
 have hA : DataW.TrodAll enc Tryz.prog W 0 (fun _ => true) true Tryz.f4.params.toList args.toList ds p := hA0
 rw [Tryz.params4] at hA hval
 obtain ⟨v0, vs0, d0, ds0, p0, q0, hargs, rfl, rfl, h0, r0⟩ := trodAll_cons hA
 obtain ⟨v1, vs1, d1, ds1, p1, q1, rfl, rfl, rfl, h1, r1⟩ := trodAll_cons r0
 obtain ⟨rfl, rfl, rfl⟩ := trodAll_nil r1
 obtain rfl : args = #[v0, v1] := by cases args; simp_all
 obtain ⟨rfl, rfl⟩ := trodVars_none hV
 have k0 := h0
 have lt0 : ∀ x ∈ p0, x.block < W.heap.size := by obtain ⟨m, hm⟩ := k0; exact DataW.trod_lt m _ _ _ hm
 obtain ⟨a00, a01, a02, a03, rfl, w00, w01, w03, _⟩ := open_Date (hval 0 27 v0 rfl rfl) h0
 have k1 := h1
 have lt1 : ∀ x ∈ p1, x.block < W.heap.size := by obtain ⟨m, hm⟩ := k1; exact DataW.trod_lt m _ _ _ hm
 obtain ⟨a10, a11, a12, a13, rfl, w10, w11, w13, _⟩ := open_Date (hval 1 27 v1 rfl rfl) h1
 clear hA0 hval0
 have tabs := tabs_of_laid (by kernel_rfl) (by kernel_rfl) hL
 have tab0 : Tab W 11 _ := (tabs).1 11 (by kernel_rfl)
 have tab1 : Tab W 12 _ := (tabs.2).1 12 (by kernel_rfl)
 have tab2 : Tab W 7 kevCells := (tabs.2.2).1 7 (by kernel_rfl)
 have tab3 : Tab W 5 lenCells := (tabs.2.2.2).1 5 (by kernel_rfl)
 have tab4 : Tab W 8 powU := (tabs.2.2.2.2).1 8 (by kernel_rfl)
 have tab5 : Tab W 4 Gr.gregCells := (tabs.2.2.2.2.2).1 4 (by kernel_rfl)
 have tab6 : Tab W 0 Fe.cells := (tabs.2.2.2.2.2.2).1 0 (by kernel_rfl)
 have tab7 : Tab W 3 nameCells := (tabs.2.2.2.2.2.2.2).1 3 (by kernel_rfl)
 have tab8 : Tab W 2 powCells := (tabs.2.2.2.2.2.2.2.2).1 2 (by kernel_rfl)
 have hg : ∀ g ∈ glst, Sat.PlainAt W g := by
  intro g hg
  simp only [glst, List.mem_cons, List.not_mem_nil, or_false] at hg
  rcases hg with rfl | rfl | rfl | rfl | rfl | rfl | rfl | rfl | rfl
  ·exact tab_plain tab0 (by kernel_rfl)
  ·exact tab_plain tab1 (by kernel_rfl)
  ·exact tab_plain tab2 (by kernel_rfl)
  ·exact tab_plain tab3 (by kernel_rfl)
  ·exact tab_plain tab4 (by kernel_rfl)
  ·exact tab_plain tab5 (by kernel_rfl)
  ·exact tab_plain tab6 (by kernel_rfl)
  ·exact tab_plain tab7 (by kernel_rfl)
  ·exact tab_plain tab8 (by kernel_rfl)
 obtain ⟨M, last, o, w', t', h1, h2, h3, h4⟩ := Sat.go_run okl (f := 4) (by decide) (by decide) (X := .bool true) hsh hg (by simp [Go.Sq.avB, Go.Sq.avS]) (fun τ d => WholeDates_walk a00 a01 a02 a03 a10 a11 a12 a13 w00 w01 w03 w10 w11 w13 (Go.Sq.tp W τ d) tab2 tab3 (tabIs_of_tab tab4) tab5 tab6 tab7 tab8)
 refine ⟨M, last, o, w', t', h1, h2, h3, h4.mono fun v hp => ?_⟩
 obtain ⟨rfl, bel⟩ := hp
 refine ChangeSpec.post_alike (W'' := Go.Sq.tp w' W.tape w'.drawn) ?_ ⟨rfl, rfl, rfl⟩
 exact ⟨_, _, _, [], _, [], hW', trodAll_mk1 (shut_bool Tryz.underlying4 _), (trodAll_cons_mk (Below.trod laidOut (by kernel_rfl) (of_decide_eq_true (by kernel_rfl)) k0 bel lt0) (trodAll_cons_mk (Below.trod laidOut (by kernel_rfl) (of_decide_eq_true (by kernel_rfl)) k1 bel lt1) trodAll_mk0)), rfl, bel.frame _, fun h => by cases h⟩
theorem facts : joinedFacts Tryz.pinned.checked.prog 4 Tryz.f4 Rows.wholeDatesSpec Rows.wholeDatesRow = true := by
 unfold joinedFacts
 repeat' (with_reducible refine and_t ?_ ?_)
 all_goals first | with_reducible exact mayEnterP | with_reducible exact laidOutP | with_reducible exact mapsRowedP | ((with_reducible rw [liftsFinalP]); rfl) | ((with_reducible rw [makeP]); rfl) | kernel_rfl
theorem over : Rows.wholeDatesRow.holds Tryz.pinned (OpenSpec.ofChange Rows.wholeDatesSpec) :=
 OpenClaim.holds_of_wide_leaving 4 Tryz.f4 rfl rfl rfl rfl rfl rfl rfl ⟨rfl, rfl, rfl, rfl, rfl⟩ rfl rfl rfl rfl rfl (by kernel_rfl) Tryz.func4 facts
  (of_decide_eq_true (by kernel_rfl)) (by unfold Func.isWrapper; rw [if_neg (of_decide_eq_false (by kernel_rfl))]; exact ⟨rfl, rfl⟩)
  (fun os started H enc _ => lifted os started H enc)
theorem plain (f : FuncId) (fn : Func) (hf : Tryz.pinned.checked.prog.funcNamed "almanacker/almanackertop.WholeDates" = some f) (hfn : Tryz.pinned.checked.prog.funcs[f]? = some fn) :
  false = Tryz.pinned.checked.prog.looks [] ∧ ∀ (j : Nat) t, fn.params[j]? = some t → Tryz.pinned.checked.prog.wantsStandIn t = false := by
 obtain rfl : f = 4 := Option.some.inj ((show Tryz.prog.funcNamed "almanacker/almanackertop.WholeDates" = some 4 by kernel_rfl).symm.trans hf) |>.symm
 obtain rfl : fn = Tryz.f4 := (Option.some.inj (Tryz.func4.symm.trans hfn)).symm
 refine ⟨by kernel_rfl, fun j t ht => ?_⟩
 rw [Tryz.params4] at ht
 have hall : ([27, 27].all fun u => !Tryz.prog.wantsStandIn u) = true := by kernel_rfl
 have hm : t ∈ [27, 27] := by simpa using Array.mem_of_getElem? ht
 exact (show Tryz.prog.wantsStandIn t = false by simpa using List.all_eq_true.1 hall t hm)
theorem wfB : Rows.wholeDatesRow.wfByText (OpenSpec.ofChange Rows.wholeDatesSpec) = true := by kernel_rfl
theorem goesB : true = Rows.wholeDatesRow.goesBy Tryz.pinned.checked.prog := by kernel_rfl
theorem proved : Rows.WholeDatesCardSaid :=
 Go.Sq.tied_goes .later _ _ _ _ over wfB wholeDates_row_tie rfl ⟨rfl, rfl⟩ mainIsP rfl plain goesB
end Go.Proofs.YthnjjcoahdhmnaaGreatDoor.wholeDates
