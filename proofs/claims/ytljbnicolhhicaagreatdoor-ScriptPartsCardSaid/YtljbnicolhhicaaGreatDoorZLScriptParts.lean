/- ScriptParts: for every input the law answers true, where the listed package-level tables hold what the program's text lays in them (the card ties that). -/
import Derived.Test.YtljbnicolhhicaaGreatDoorRows
import Derived.Test.YtljbnicolhhicaaGreatDoorCards
import Derived.Test.YtljbnicolhhicaaGreatDoorTie
import Derived.Test.YtljbnicolhhicaaGreatDoorZEnter
import Derived.Test.YtljbnicolhhicaaGreatDoorZBB
import Derived.Test.YtljbnicolhhicaaGreatDoorZQX
import Derived.Test.YtljbnicolhhicaaGreatDoorZBaseP
import Derived.Test.YtljbnicolhhicaaGreatDoorZNA
import Derived.Lay
import Derived.MakeChecks
import Derived.Test.YtljbnicolhhicaaGreatDoorZGT
import Derived.OpenShut
import Derived.LaidMore
import Derived.ProofKit
import Derived.Stop.Joined
import Derived.SevenTiedAt
set_option maxHeartbeats 8000000
set_option maxRecDepth 100000
set_option linter.unusedVariables false
namespace Go.Proofs.YtljbnicolhhicaaGreatDoor.scriptParts
open Go.ChangeShapes Go.WideShapes Go.ChangeAt Go.RowKit
open Go.ChangeMaps (open_string shut_string)
def lst : List Nat := [3, 4, 5, 6, 7, 8, 9, 10, 11, 12, 13, 14, 15, 16, 17, 18, 19, 20, 21, 22, 23, 24, 25, 26, 27, 28, 29, 30, 31, 32, 33, 34, 35, 36, 37, 38, 39, 40, 41, 42, 43, 44, 45, 46, 47, 48, 49, 50, 51, 52, 53, 54, 55, 56, 57, 58, 59, 60, 61, 62, 63, 64, 65, 66, 67, 68, 69, 70, 71, 72, 73, 74, 75, 76, 77, 78, 79, 80, 81, 82, 83, 84, 85, 86, 87, 88, 89, 90, 91, 92, 93, 94, 95, 96, 97, 98, 99, 100, 101, 102, 103, 104, 105, 106, 107, 108, 109, 110, 111, 112, 113, 114, 115, 116, 117, 118, 119, 120, 121, 122, 123, 124, 125, 126, 127, 128, 129, 130, 131, 132, 133, 134, 135, 136, 137, 138, 139, 140, 141, 142, 143, 144, 145, 146, 147, 148, 149, 150, 151, 153, 154, 155, 156, 157, 158, 159, 160, 161, 162, 163, 164, 167, 168, 169, 171, 172, 173, 174, 175, 176, 178, 179, 180, 187, 188, 189, 190, 191, 192, 194, 195, 196, 197, 198, 199, 200, 201, 221, 222, 223, 224, 225, 226, 232, 233, 234, 235, 236, 237, 238, 239, 240, 241, 242, 243, 244, 245, 246, 247]
def glst : List Nat := [11, 12, 6, 4, 10, 9, 1, 7, 0, 2, 3, 8, 5]
theorem okl : Sat.OkL lst glst := ⟨by kernel_rfl, by kernel_rfl, by kernel_rfl, by rfl⟩
theorem tab_plain {W : World} {g : Nat} {cs : List Value} (h : Tab W g cs) (hp : Go.Sq.objB (.cells cs.toArray 0 (0, 0)) = true) : Sat.PlainAt W g := by
 obtain ⟨t, h⟩ := h
 exact ⟨_, h, hp⟩
theorem row_of_shaped {P : Program} {w : World} {g : Nat} {t : TypeId} {zero : Array Value} {k : IntKind} (h : w.ShapedOpen P) (hg : g < P.globals.size) (h0 : ((begin P (fun _ _ => 0) default).world.heap[g]?).bind Obj.row? = some (zero, t)) (hz : zero.size = 1) (hb : P.buildable t = true) (hc : P.cellTypes P.depth t = some [t]) (hu : P.underlying t = some (.int k)) : ∃ m, w.heap[g]? = some (.cells #[.int k m] t) := by
 obtain ⟨m, hm⟩ := cell_of_shapedOpen_int h hg h0 hz hb hc hu
 obtain ⟨cs, hh, hs, hr⟩ := h.1 g zero t hg h0
 have e : cs[0]? = some (.int k m) := by simpa [World.cell?, hh] using hm
 have ec : cs = #[.int k m] := by
  refine Array.ext (by rw [hs, hz]; rfl) fun i hi hi2 => ?_
  obtain rfl : i = 0 := by simp at hi2; omega
  have := (Array.getElem?_eq_some_iff.1 e).2
  simpa using this
 exact ⟨m, by rw [hh, ec]⟩
theorem max_plain {W : World} (h : W.ShapedOpen Tryz.prog) : Sat.PlainAt W 5 := by
 obtain ⟨m, hm⟩ := row_of_shaped (P := Tryz.prog) (g := 5) (t := 3) (zero := #[.int .i64 0]) (k := .i64) h (of_decide_eq_true (by kernel_rfl)) (by kernel_rfl) rfl (by kernel_rfl) (by kernel_rfl) Tryz.underlying3
 exact ⟨_, hm, by simp [Go.Sq.objB, Go.Sq.avB, Go.Sq.avS]⟩
theorem O26.c2_plain (o : O26) (t : Nat) (h : t < 10) : ∃ u, o.c2[t]? = some u ∧ Go.Sq.avS u = true := by
 match t, h with
 | 0, _ | 1, _ | 2, _ | 3, _ | 4, _ | 5, _ | 6, _ | 7, _ | 8, _ | 9, _ => exact ⟨_, rfl, rfl⟩
theorem lifted (os : Os) (started : os.Started) (H : Type) (enc : TypeId × Value → H) :
  ReturnsInLeavingWide {} Tryz.checked os 3 .any (fun w args => (Rows.scriptPartsSpec.pre enc Tryz.prog Tryz.f3 [] false w args ∧ laidMetH Tryz.prog Rows.scriptPartsRow.laid w) ∧ sizedMet enc Tryz.prog Tryz.f3 (OpenSpec.ofChange Rows.scriptPartsSpec) false w args)
   (Rows.scriptPartsSpec.post enc Tryz.prog Tryz.f3 false true false false) := by
 letI := Sat.winO
 refine Go.Sq.leaving_and (C := Tryz.checked) (X := fun w _ => laidMetH Tryz.prog Rows.scriptPartsRow.laid w) (fun _ _ _ hh h => h.of_heap hh) own started Tryz.func3
  (ChangeSpec.witness_shaped (enc := enc) (C := Tryz.checked) (os := os) (X := fun w _ => laidMetH Tryz.prog Rows.scriptPartsRow.laid w) false (World.laidAll Tryz.prog os Rows.scriptPartsRow.laid) #[.slice none 0 0, .int .u8 0] 8 (World.laidAll_os _ _ _) (World.shaped_of_ZipB (by kernel_rfl) (by kernel_rfl)) (by kernel_rfl) (by kernel_rfl) (by kernel_rfl) (by rw [MakeChecks.laidMetH_plain _ _ _ (by kernel_rfl)]; exact laidMet_laidAll _ (by kernel_rfl) (by kernel_rfl))) ?_
 intro W base args ds gs before hval0 hW hL hsh
 have hval : ∀ (j : Nat) t v, Tryz.f3.params[j]? = some t → args[j]? = some v → Value.okWide Tryz.prog W .any base t v := hval0
 have hW' := hW
 obtain ⟨p, q, hA0, hV, rfl, hfz, hnd⟩ := hW
 have hA : DataW.TrodAll enc Tryz.prog W 0 (fun _ => true) true Tryz.f3.params.toList args.toList ds p := hA0
 rw [Tryz.params3] at hA hval
 obtain ⟨v0, vs0, d0, ds0, p0, q0, hargs, rfl, rfl, h0, r0⟩ := trodAll_cons hA
 obtain ⟨v1, vs1, d1, ds1, p1, q1, rfl, rfl, rfl, h1, r1⟩ := trodAll_cons r0
 obtain ⟨rfl, rfl, rfl⟩ := trodAll_nil r1
 obtain rfl : args = #[v0, v1] := by cases args; simp_all
 obtain ⟨rfl, rfl⟩ := trodVars_none hV
 have k0 := h0
 have lt0 : ∀ x ∈ p0, x.block < W.heap.size := by obtain ⟨m, hm⟩ := k0; exact DataW.trod_lt m _ _ _ hm
 have hw0 := hval 0 22 v0 rfl rfl
 simp only [Value.okWide, Tryz.underlying22] at hw0
 have hc0 : v0.cells.toList = [v0] := by
  cases v0 with
  | agg cs => simp [Cell.okWide, Cell.ok, Tryz.underlying22] at hw0
  | _ => rfl
 obtain ⟨fuel, hf⟩ := h0
 rw [hc0] at hf
 have hrow := op_row hw0 hf
 obtain ⟨a1, rfl, rfl, rfl, w1⟩ := open_int Tryz.underlying5 (hval 1 5 v1 rfl rfl) h1
 clear hA0 hval0
 have tabs := tabs_of_laid (by kernel_rfl) (by kernel_rfl) hL
 have tab0 : Tab W 11 _ := (tabs).1 11 (by kernel_rfl)
 have tab1 : Tab W 12 _ := (tabs.2).1 12 (by kernel_rfl)
 have tab2 : Tab W 6 kevCells := (tabs.2.2).1 6 (by kernel_rfl)
 have tab3 : Tab W 4 lenCells := (tabs.2.2.2).1 4 (by kernel_rfl)
 have tab4 : Tab W 10 powU := (tabs.2.2.2.2).1 10 (by kernel_rfl)
 have tab5 : Tab W 9 _ := (tabs.2.2.2.2.2).1 9 (by kernel_rfl)
 have tab6 : Tab W 1 Gr.gregCells := (tabs.2.2.2.2.2.2).1 1 (by kernel_rfl)
 have tab7 : Tab W 7 Fe.cells := (tabs.2.2.2.2.2.2.2).1 7 (by kernel_rfl)
 have tab8 : Tab W 0 Rd.nmCells := (tabs.2.2.2.2.2.2.2.2).1 0 (by kernel_rfl)
 have tab9 : Tab W 2 nameCells := (tabs.2.2.2.2.2.2.2.2.2).1 2 (by kernel_rfl)
 have tab10 : Tab W 3 powCells := (tabs.2.2.2.2.2.2.2.2.2.2).1 3 (by kernel_rfl)
 have tab11 : Tab W 8 _ := (tabs.2.2.2.2.2.2.2.2.2.2.2).1 8 (by kernel_rfl)
 obtain ⟨mx, hmx⟩ := maxAt_of hsh
 have hg : ∀ g ∈ glst, Sat.PlainAt W g := by
  intro g hg
  simp only [glst, List.mem_cons, List.not_mem_nil, or_false] at hg
  rcases hg with rfl | rfl | rfl | rfl | rfl | rfl | rfl | rfl | rfl | rfl | rfl | rfl | rfl
  ·exact tab_plain tab0 (by kernel_rfl)
  ·exact tab_plain tab1 (by kernel_rfl)
  ·exact tab_plain tab2 (by kernel_rfl)
  ·exact tab_plain tab3 (by kernel_rfl)
  ·exact tab_plain tab4 (by kernel_rfl)
  ·exact tab_plain tab5 (by kernel_rfl)
  ·exact tab_plain tab6 (by kernel_rfl)
  ·exact tab_plain tab7 (by kernel_rfl)
  ·exact tab_plain tab8 (by kernel_rfl)
  ·exact tab_plain tab9 (by kernel_rfl)
  ·exact tab_plain tab10 (by kernel_rfl)
  ·exact tab_plain tab11 (by kernel_rfl)
  ·exact max_plain hsh
 have hrun : ∃ M last o w' t', runNT Tryz.prog (M + 1) (Go.Conc.solo (Go.Conc.G (Frame.enter Tryz.prog 3 #[v0, .int .u8 a1] .normal) []) W) #[] = (.ended o w', t') ∧ runN Tryz.prog M (Go.Conc.solo (Go.Conc.G (Frame.enter Tryz.prog 3 #[v0, .int .u8 a1] .normal) []) W) = .next last ∧
   step Tryz.prog last = .ended o w' ∧ Conc.Good Tryz.prog (Go.Sq.Kept W (.bool true)) last o w' t' := by
  rcases hrow with rfl | ⟨b, off, len, cap, lo, ob, rfl, hlc, hcm, hll, hOps, hIn, hob⟩
  ·letI := Sat.winO
   refine Sat.go_run okl (Sat.okWO lst glst) (f := 3) (by decide) (by decide) (X := .bool true) hsh hg (fun b o h => by cases h) (fun j x h => .inl ?_)
    (fun τ d => ScriptParts_walk [] none 0 a1 (bounds_u8 w1) (Nat.le_refl _) (by simp [maxLen]) (fun _ => rfl) (by simp) mx (Go.Sq.tp W τ d) (.inl rfl) hmx tab2 tab3 (tabIs_of_tab tab4) tab6 tab7 tab8 tab9 tab10)
   match j, h with
   | 0, h => obtain rfl := Option.some.inj h; exact .slice0 _ _
   | 1, h => obtain rfl := Option.some.inj h; exact .int _ _
  ·have hwalk : ∀ τ d, Calls Tryo.prog 3 #[.slice (some ⟨b, off, none⟩) len cap, .int .u8 a1] (Go.Sq.tp W τ d) fun e w' => e = .returned (.bool true) ∧ Below W.heap.size (Go.Sq.tp W τ d) w' := fun τ d => by
    have hln : (lo.take len).length = len := by rw [List.length_take]; omega
    have := ScriptParts_walk (lo.take len) (some ⟨b, off, none⟩) cap a1 (bounds_u8 w1) (by omega) hcm (fun h => by cases h) (fun o ho => hIn o (List.mem_of_mem_take ho)) mx (Go.Sq.tp W τ d) (.inr ⟨b, off, rfl, pop_take hOps len⟩) hmx tab2 tab3 (tabIs_of_tab tab4) tab6 tab7 tab8 tab9 tab10
    rw [hln] at this
    exact this
   by_cases hb : Sat.GbO glst b = true ∨ b = Tryz.prog.globals.size
   ·letI := Sat.winO
    refine Sat.go_run okl (Sat.okWO lst glst) (f := 3) (by decide) (by decide) (X := .bool true) hsh hg (fun b o h => by cases h) (fun j x h => .inl ?_) hwalk
    match j, h with
    | 0, h =>
     obtain rfl := Option.some.inj h
     exact .slice _ _ fun u => u.elim (fun z => hb.elim (fun g => by have := z.2.1; rw [g] at this; cases this) z.2.2) fun h => absurd (Go.Sq.lt_of_heap hob) (Nat.not_lt.2 h)
    | 1, h => obtain rfl := Option.some.inj h; exact .int _ _
   ·have hp : (⟨b, off, cap, 10, 9, ob⟩ : Go.Sq.Win).Plain := fun j hj => by
     have hj' : j < cap * 10 := hj
     obtain ⟨o, ho⟩ : ∃ o, lo[j / 10]? = some o := ⟨_, List.getElem?_eq_getElem (by omega)⟩
     obtain ⟨u, hu, hs⟩ := O26.c2_plain o (j % 10) (by omega)
     have := hOps (j / 10) o (j % 10) u ho hu
     rw [show off + j / 10 * 10 + j % 10 = off + j by omega, Go.Sq.cell_of (o := ob) hob] at this
     exact ⟨u, this, hs⟩
    letI := Sat.winI ⟨b, off, cap, 10, 9, ob⟩
    refine Sat.go_run okl (Sat.okWI rfl rfl hp (by decide) (by decide)) (f := 3) (by decide) (by decide) (X := .bool true) hsh hg (fun b' o' h => ?_) (fun j x h => ?_) hwalk
    ·have h' : (if b' = b then some ob else none) = some o' := h
     split at h'
     ·next e =>
      subst e
      cases h'
      exact ⟨by cases hg : Sat.GbO glst b' with | true => exact absurd (.inl hg) hb | false => rfl, fun e => hb (.inr e), hob⟩
     ·cases h'
    ·match j, h with
     | 0, h => obtain rfl := Option.some.inj h; exact .inr ⟨0, len, cap, by simp, hlc, by simp⟩
     | 1, h => obtain rfl := Option.some.inj h; exact .inl (.int _ _)
 obtain ⟨M, last, o, w', t', h1, h2, h3, h4⟩ := hrun
 refine ⟨M, last, o, w', t', h1, h2, h3, h4.mono fun v hp => ?_⟩
 obtain ⟨rfl, bel⟩ := hp
 refine ChangeSpec.post_alike (W'' := Go.Sq.tp w' W.tape w'.drawn) ?_ ⟨rfl, rfl, rfl⟩
 exact ⟨_, _, _, [], _, [], hW', trodAll_mk1 (shut_bool Tryz.underlying4 _), (trodAll_cons_mk (Below.trod laidOut (by kernel_rfl) (of_decide_eq_true (by kernel_rfl)) k0 bel lt0) (trodAll_cons_mk (shut_int Tryz.underlying5 w1) trodAll_mk0)), rfl, bel.frame _, fun h => by cases h⟩
theorem facts : joinedFacts Tryz.pinned.checked.prog 3 Tryz.f3 Rows.scriptPartsSpec Rows.scriptPartsRow = true := by
 unfold joinedFacts
 repeat' (with_reducible refine and_t ?_ ?_)
 all_goals first | with_reducible exact mayEnterP | with_reducible exact laidOutP | with_reducible exact mapsRowedP | ((with_reducible rw [liftsFinalP]); rfl) | ((with_reducible rw [makeP]); rfl) | kernel_rfl
theorem over : Rows.scriptPartsRow.holds Tryz.pinned (OpenSpec.ofChange Rows.scriptPartsSpec) :=
 OpenClaim.holds_of_wide_leaving 3 Tryz.f3 rfl rfl rfl rfl rfl rfl rfl ⟨rfl, rfl, rfl, rfl, rfl⟩ rfl rfl rfl rfl rfl (by kernel_rfl) Tryz.func3 facts
  (of_decide_eq_true (by kernel_rfl)) (by unfold Func.isWrapper; rw [if_neg (of_decide_eq_false (by kernel_rfl))]; exact ⟨rfl, rfl⟩)
  (fun os started H enc _ => lifted os started H enc)
theorem plain (f : FuncId) (fn : Func) (hf : Tryz.pinned.checked.prog.funcNamed "almanacker/almanackerlaw26.ScriptParts" = some f) (hfn : Tryz.pinned.checked.prog.funcs[f]? = some fn) :
  false = Tryz.pinned.checked.prog.looks [] ∧ ∀ (j : Nat) t, fn.params[j]? = some t → Tryz.pinned.checked.prog.wantsStandIn t = false := by
 obtain rfl : f = 3 := Option.some.inj ((show Tryz.prog.funcNamed "almanacker/almanackerlaw26.ScriptParts" = some 3 by kernel_rfl).symm.trans hf) |>.symm
 obtain rfl : fn = Tryz.f3 := (Option.some.inj (Tryz.func3.symm.trans hfn)).symm
 refine ⟨by kernel_rfl, fun j t ht => ?_⟩
 rw [Tryz.params3] at ht
 have hall : ([22, 5].all fun u => !Tryz.prog.wantsStandIn u) = true := by kernel_rfl
 have hm : t ∈ [22, 5] := by simpa using Array.mem_of_getElem? ht
 exact (show Tryz.prog.wantsStandIn t = false by simpa using List.all_eq_true.1 hall t hm)
theorem wfB : Rows.scriptPartsRow.wfByText (OpenSpec.ofChange Rows.scriptPartsSpec) = true := by kernel_rfl
theorem goesB : true = Rows.scriptPartsRow.goesBy Tryz.pinned.checked.prog := by kernel_rfl
theorem proved : Rows.ScriptPartsCardSaid :=
 Go.Sq.tied_goes .later _ _ _ _ over wfB scriptParts_row_tie rfl ⟨rfl, rfl⟩ mainIsP rfl plain goesB
end Go.Proofs.YtljbnicolhhicaaGreatDoor.scriptParts
