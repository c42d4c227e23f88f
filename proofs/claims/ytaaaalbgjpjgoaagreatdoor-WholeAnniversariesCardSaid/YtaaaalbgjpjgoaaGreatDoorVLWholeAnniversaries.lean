/- WholeAnniversaries: for every input the law answers true, where the listed package-level tables hold what the program's text lays in them (the card ties that). -/
import Derived.Test.YtaaaalbgjpjgoaaGreatDoorRows
import Derived.Test.YtaaaalbgjpjgoaaGreatDoorCards
import Derived.Test.YtaaaalbgjpjgoaaGreatDoorTie
import Derived.Test.YtaaaalbgjpjgoaaGreatDoorVEnter
import Derived.Test.YtaaaalbgjpjgoaaGreatDoorVBB
import Derived.Test.YtaaaalbgjpjgoaaGreatDoorVBB
import Derived.Test.YtaaaalbgjpjgoaaGreatDoorVW28C
import Derived.Test.YtaaaalbgjpjgoaaGreatDoorVBaseZ
import Derived.Test.YtaaaalbgjpjgoaaGreatDoorVGT
import Derived.OpenShut
import Derived.LaidMore
import Derived.ProofKit
import Derived.Stop.Joined
import Derived.SevenTiedAt
namespace Go.Proofs.YtaaaalbgjpjgoaaGreatDoor.wholeAnniversaries
open Go.ChangeShapes Go.WideShapes Go.ChangeAt Go.RowKit
open Go.ChangeMaps (open_string shut_string)
set_option linter.unusedVariables false
theorem door_met (os : Os) : laidMetH Tryz.prog Rows.wholeAnniversariesRow.laid ((World.doorLaid Tryz.prog 164 os).forCall (fun _ _ => 0) ⟨#[], #[.agg #[.int .i64 0, .int .i64 0, .bool false, .int .i64 0], .int .u16 0], []⟩).memory :=
  laidMetH_of_parts3 (fuel := 8) (laidMet_of_run' 8 (by kernel_rfl) (by kernel_rfl)) (by kernel_rfl) (by kernel_rfl)
def lst : List Nat := [12, 14, 16, 26, 27, 28, 30, 31, 32, 33, 34, 35, 36, 38, 39, 40, 43, 44, 52, 53, 54, 55, 59, 68, 69, 70, 71, 72, 73, 74, 75, 76, 77, 78, 79, 80, 81, 82, 83, 84, 85, 89, 90, 114, 115, 116, 117, 118, 119, 120, 121, 122, 123, 124, 128, 129, 138, 139, 140, 141, 142, 143, 144, 145, 146, 147, 148, 149, 150, 151, 152, 153, 169, 176, 177, 178, 179, 180, 188, 189, 190, 191, 223, 224, 225, 236, 237, 257, 258, 259, 268, 276, 277, 278, 285, 286, 287, 288, 289, 290, 291, 292, 293, 294, 295, 296, 297, 298, 299, 300]
def glst : List Nat := [2, 3, 4, 8, 5]
set_option maxRecDepth 100000 in
theorem okl : Sat.OkL lst glst := ⟨by kernel_rfl, by kernel_rfl, by kernel_rfl, by rfl⟩
theorem tab_plain {W : World} {g : Nat} {cs : List Value} (h : Tab W g cs) (hp : Go.Sq.objB (.cells cs.toArray 0 (0, 0)) = true) : Sat.PlainAt W g := by
  obtain ⟨t, h⟩ := h
  exact ⟨_, h, hp⟩
set_option maxRecDepth 100000 in
set_option maxHeartbeats 2000000 in
theorem lifted (os : Os) (started : os.Started) (H : Type) (enc : TypeId × Value → H) :
    ReturnsInLeavingWide {} Tryz.checked os 12 .any (fun w args => (Rows.wholeAnniversariesSpec.pre enc Tryz.prog Tryz.f12 [] false w args ∧ laidMetH Tryz.prog Rows.wholeAnniversariesRow.laid w) ∧ sizedMet enc Tryz.prog Tryz.f12 (OpenSpec.ofChange Rows.wholeAnniversariesSpec) false w args)
      (Rows.wholeAnniversariesSpec.post enc Tryz.prog Tryz.f12 false true false false) := by
  refine Go.Sq.leaving_and (C := Tryz.checked) (X := fun w _ => laidMetH Tryz.prog Rows.wholeAnniversariesRow.laid w) (fun _ _ _ hh h => h.of_heap hh) own started Tryz.func12
    (ChangeSpec.witness_shaped (enc := enc) (C := Tryz.checked) (os := os) (X := fun w _ => laidMetH Tryz.prog Rows.wholeAnniversariesRow.laid w) false (World.doorLaid Tryz.prog 164 os) #[.agg #[.int .i64 0, .int .i64 0, .bool false, .int .i64 0], .int .u16 0] 8 rfl (World.shaped_of_RefB (by kernel_rfl) (by kernel_rfl)) (by kernel_rfl) (by kernel_rfl) (by kernel_rfl) (door_met os)) ?_
  intro W base args ds gs before hval0 hW hL hsh
  have hval : ∀ (j : Nat) t v, Tryz.f12.params[j]? = some t → args[j]? = some v → Value.okWide Tryz.prog W .any base t v := hval0
  have hW' := hW
  obtain ⟨p, q, hA0, hV, rfl, hfz, hnd⟩ := hW
  have hA : DataW.TrodAll enc Tryz.prog W 0 (fun _ => true) true Tryz.f12.params.toList args.toList ds p := hA0
  rw [Tryz.params12] at hA hval
  obtain ⟨v0, vs0, d0, ds0, p0, q0, hargs, rfl, rfl, h0, r0⟩ := trodAll_cons hA
  obtain ⟨v1, vs1, d1, ds1, p1, q1, rfl, rfl, rfl, h1, r1⟩ := trodAll_cons r0
  obtain ⟨rfl, rfl, rfl⟩ := trodAll_nil r1
  obtain rfl : args = #[v0, v1] := by cases args; simp_all
  obtain ⟨rfl, rfl⟩ := trodVars_none hV
  have k0 := h0
  have lt0 : ∀ x ∈ p0, x.block < W.heap.size := by obtain ⟨m, hm⟩ := k0; exact DataW.trod_lt m _ _ _ hm
  obtain ⟨a00, a01, a02, a03, rfl, w00, w01, w03, _⟩ := open_Date (hval 0 65 v0 rfl rfl) h0
  obtain ⟨a1, rfl, rfl, rfl, w1⟩ := open_int Tryz.underlying37 (hval 1 37 v1 rfl rfl) h1
  clear hA0 hval0
  have tabs := tabs_of_laid (by kernel_rfl) (by kernel_rfl) hL
  have tab0 : Tab W 2 kevCells := (tabs).1 2 (by kernel_rfl)
  have tab1 : Tab W 3 lenCells := (tabs.2).1 3 (by kernel_rfl)
  have tab2 : Tab W 4 Gr.gregCells := (tabs.2.2).1 4 (by kernel_rfl)
  have tab3 : Tab W 8 Fe.cells := (tabs.2.2.2).1 8 (by kernel_rfl)
  have tab4 : Tab W 5 powCells := (tabs.2.2.2.2).1 5 (by kernel_rfl)
  have hg : ∀ g ∈ glst, Sat.PlainAt W g := by
    intro g hg
    simp only [glst, List.mem_cons, List.not_mem_nil, or_false] at hg
    rcases hg with rfl | rfl | rfl | rfl | rfl
    · exact tab_plain tab0 (by kernel_rfl)
    · exact tab_plain tab1 (by kernel_rfl)
    · exact tab_plain tab2 (by kernel_rfl)
    · exact tab_plain tab3 (by kernel_rfl)
    · exact tab_plain tab4 (by kernel_rfl)
  obtain ⟨M, last, o, w', t', h1, h2, h3, h4⟩ := Sat.go_run okl (f := 12) (by decide) (by decide) (X := .bool true) hsh hg (by simp [Go.Sq.avB, Go.Sq.avS]) (fun τ d => WholeAnniversaries_walk a00 a01 a02 a03 a1 w00 w01 w03 (bounds_u16 w1) (Go.Sq.tp W τ d) tab0 tab1 tab2 tab3 tab4)
  refine ⟨M, last, o, w', t', h1, h2, h3, h4.mono fun v hp => ?_⟩
  obtain ⟨rfl, bel⟩ := hp
  refine ChangeSpec.post_alike (W'' := Go.Sq.tp w' W.tape w'.drawn) ?_ ⟨rfl, rfl, rfl⟩
  exact ⟨_, _, _, [], _, [], hW', trodAll_mk1 (shut_bool Tryz.underlying4 _), (trodAll_cons_mk (Below.trod laidOut (by kernel_rfl) (of_decide_eq_true (by kernel_rfl)) k0 bel lt0) (trodAll_cons_mk (shut_int Tryz.underlying37 w1) trodAll_mk0)), rfl, bel.frame _, fun h => by cases h⟩

theorem facts : joinedFacts Tryz.pinned.checked.prog 12 Tryz.f12 Rows.wholeAnniversariesSpec Rows.wholeAnniversariesRow = true := by
  unfold joinedFacts
  repeat' (with_reducible refine and_t ?_ ?_)
  all_goals first | with_reducible exact mayEnterP | with_reducible exact laidOutP | with_reducible exact mapsRowedP | ((with_reducible rw [liftsFinalP]); rfl) | ((with_reducible rw [makeP]); rfl) | kernel_rfl
theorem over : Rows.wholeAnniversariesRow.holds Tryz.pinned (OpenSpec.ofChange Rows.wholeAnniversariesSpec) :=
  OpenClaim.holds_of_wide_leaving 12 Tryz.f12 rfl rfl rfl rfl rfl rfl rfl ⟨rfl, rfl, rfl, rfl, rfl⟩ rfl rfl rfl rfl rfl (by kernel_rfl) Tryz.func12 facts
    (of_decide_eq_true (by kernel_rfl)) (by unfold Func.isWrapper; rw [if_neg (of_decide_eq_false (by kernel_rfl))]; exact ⟨rfl, rfl⟩)
    (fun os started H enc _ => lifted os started H enc)
theorem plain (f : FuncId) (fn : Func) (hf : Tryz.pinned.checked.prog.funcNamed "almanacker/almanackertop.WholeAnniversaries" = some f) (hfn : Tryz.pinned.checked.prog.funcs[f]? = some fn) :
    false = Tryz.pinned.checked.prog.looks [] ∧ ∀ (j : Nat) t, fn.params[j]? = some t → Tryz.pinned.checked.prog.wantsStandIn t = false := by
  obtain rfl : f = 12 := Option.some.inj ((show Tryz.prog.funcNamed "almanacker/almanackertop.WholeAnniversaries" = some 12 by kernel_rfl).symm.trans hf) |>.symm
  obtain rfl : fn = Tryz.f12 := (Option.some.inj (Tryz.func12.symm.trans hfn)).symm
  refine ⟨by kernel_rfl, fun j t ht => ?_⟩
  rw [Tryz.params12] at ht
  have hall : ([65, 37].all fun u => !Tryz.prog.wantsStandIn u) = true := by kernel_rfl
  have hm : t ∈ [65, 37] := by simpa using Array.mem_of_getElem? ht
  exact (show Tryz.prog.wantsStandIn t = false by simpa using List.all_eq_true.1 hall t hm)
theorem wfB : Rows.wholeAnniversariesRow.wfByText (OpenSpec.ofChange Rows.wholeAnniversariesSpec) = true := by kernel_rfl
theorem goesB : true = Rows.wholeAnniversariesRow.goesBy Tryz.pinned.checked.prog := by kernel_rfl
theorem proved : Rows.WholeAnniversariesCardSaid :=
  Go.Sq.tied_goes .later _ _ _ _ over wfB wholeAnniversaries_row_tie rfl ⟨rfl, rfl⟩ mainIsP rfl plain goesB
end Go.Proofs.YtaaaalbgjpjgoaaGreatDoor.wholeAnniversaries
