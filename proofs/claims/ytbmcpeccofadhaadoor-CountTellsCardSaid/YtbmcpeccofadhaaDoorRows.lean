/-
  NARROWER THAN 'FOR EVERY INPUT', by the rows' own cells (each row's printed sentence says how): SpecialDays: laid · SpecialGaps: laid · CountTells: laid · CountDays: laid.
  DERIVED. THE GIVEN ROWS OF THIS SEAT. 4 by the template 'for every input the law returns true; each argument reads behind the call as it read before'; 0 by the template 'total and deterministic' (their statements: YtbmcpeccofadhaaDoorTotals.lean).
  GIVEN WITH THE SEED: the statements are not yours to turn. If you find one false, say at which input.
  Laid BY PROGRAM, IN A SANDBOX (cutbox-rows.mjs): the forced cells as the released guide's own fill.sh prints them over the translation 9806435c5690cfe7… (all of the seat's roots in one cut). By AI agents, Wed Nov 11 2026. No macro, syntax, notation, axiom, sorry.
-/
import Derived.Test.YtbmcpeccofadhaaDoorChecked
import GoSem.Claim
import GoSem.ClaimJoined
import GoSem.ClaimMapViews
import Derived.JoinedTies
import Derived.KernelRfl
namespace Go.Proofs.YtbmcpeccofadhaaDoor
/- THE CELL 'sum', in the pinned program and in every row, IS THE sha256 OF THE DUMP (.gsa) THAT YtbmcpeccofadhaaDoorProg.lean LOADS. Nothing in Lean hashes anything: it is a label: what it is worth is what the hold of that sum in a sandbox is worth. -/
noncomputable def Tryd.pinned : Pinned := { name := "ytbmcpeccofadhaadoor", sum := "9806435c5690cfe7784e83e6e8b9679f0ba15e3b113fe89f413960bbcde1aaed", checked := Tryd.checked }
namespace Rows
def none {H : Type} : Left H := { results := [], args := [] }

/- WHAT THE LISTED PACKAGE-LEVEL VARIABLES READ AS WHEN THE CALL BEGINS. Each datum BY PROGRAM (the guide's laid-datum.mjs) off the statement by which the dump's own 'gosem.cut.vars' lays the variable. In a bare row this is a premise. The card (YtbmcpeccofadhaaDoorCards.lean) ties it to the program's text. -/
def laid_almanacker_keviah_types {H : Type} : DataW H := .agg [.agg [.lit (.int .i64 1), .lit (.int .i64 0), .lit (.bool false)], .agg [.lit (.int .i64 1), .lit (.int .i64 2), .lit (.bool false)], .agg [.lit (.int .i64 2), .lit (.int .i64 1), .lit (.bool false)], .agg [.lit (.int .i64 4), .lit (.int .i64 1), .lit (.bool false)], .agg [.lit (.int .i64 4), .lit (.int .i64 2), .lit (.bool false)], .agg [.lit (.int .i64 6), .lit (.int .i64 0), .lit (.bool false)], .agg [.lit (.int .i64 6), .lit (.int .i64 2), .lit (.bool false)], .agg [.lit (.int .i64 1), .lit (.int .i64 0), .lit (.bool true)], .agg [.lit (.int .i64 1), .lit (.int .i64 2), .lit (.bool true)], .agg [.lit (.int .i64 2), .lit (.int .i64 1), .lit (.bool true)], .agg [.lit (.int .i64 4), .lit (.int .i64 0), .lit (.bool true)], .agg [.lit (.int .i64 4), .lit (.int .i64 2), .lit (.bool true)], .agg [.lit (.int .i64 6), .lit (.int .i64 0), .lit (.bool true)], .agg [.lit (.int .i64 6), .lit (.int .i64 2), .lit (.bool true)]]
def laid_almanacker_month_lengths {H : Type} : DataW H := .agg [.lit (.int .i64 30), .lit (.int .i64 29), .lit (.int .i64 30), .lit (.int .i64 29), .lit (.int .i64 30), .lit (.int .i64 30), .lit (.int .i64 29), .lit (.int .i64 30), .lit (.int .i64 29), .lit (.int .i64 30), .lit (.int .i64 29), .lit (.int .i64 30), .lit (.int .i64 29)]

/-- 'almanackerlaw22.SpecialDays': WHATEVER THE INPUT: true; the input reads as it did. -/
def specialDaysSpec : ChangeSpec := { name := "specialDays", fn := fun _ => fun
  | [d] => { results := [.lit (.bool true)], args := [d] }
  | _ => none }
def specialDaysRow : OpenClaim := { program := "ytbmcpeccofadhaadoor", sum := "9806435c5690cfe7784e83e6e8b9679f0ba15e3b113fe89f413960bbcde1aaed", func := "almanacker/almanackerlaw22.SpecialDays", spec := "specialDays", inPlace := ["math/bits.Add64"], unfollowed := true, recurses := true, named := ["almanacker/keviah.types", "almanacker/month.lengths"], apart := false, laid := [("almanacker/keviah.types", laid_almanacker_keviah_types), ("almanacker/month.lengths", laid_almanacker_month_lengths)] }
def SpecialDaysSaid : Prop := specialDaysRow.holds Tryd.pinned (OpenSpec.ofChange specialDaysSpec)

/-- ITS FALSE NEIGHBOUR: 'it returns false'. Refute it at one input. -/
def specialDaysWrong : ChangeSpec := { name := "specialDays", fn := fun _ => fun
  | [d] => { results := [.lit (.bool false)], args := [d] }
  | _ => none }
def SpecialDaysWrongFalsely : Prop := specialDaysRow.holds Tryd.pinned (OpenSpec.ofChange specialDaysWrong)

/-- 'almanackerlaw22.SpecialGaps': WHATEVER THE INPUT: true; the input reads as it did. -/
def specialGapsSpec : ChangeSpec := { name := "specialGaps", fn := fun _ => fun
  | [d] => { results := [.lit (.bool true)], args := [d] }
  | _ => none }
def specialGapsRow : OpenClaim := { program := "ytbmcpeccofadhaadoor", sum := "9806435c5690cfe7784e83e6e8b9679f0ba15e3b113fe89f413960bbcde1aaed", func := "almanacker/almanackerlaw22.SpecialGaps", spec := "specialGaps", inPlace := ["math/bits.Add64"], unfollowed := true, recurses := true, named := ["almanacker/keviah.types", "almanacker/month.lengths"], apart := false, laid := [("almanacker/keviah.types", laid_almanacker_keviah_types), ("almanacker/month.lengths", laid_almanacker_month_lengths)] }
def SpecialGapsSaid : Prop := specialGapsRow.holds Tryd.pinned (OpenSpec.ofChange specialGapsSpec)

/-- ITS FALSE NEIGHBOUR: 'it returns false'. Refute it at one input. -/
def specialGapsWrong : ChangeSpec := { name := "specialGaps", fn := fun _ => fun
  | [d] => { results := [.lit (.bool false)], args := [d] }
  | _ => none }
def SpecialGapsWrongFalsely : Prop := specialGapsRow.holds Tryd.pinned (OpenSpec.ofChange specialGapsWrong)

/-- 'almanackerlaw27.CountTells': WHATEVER THE INPUT: true; the input reads as it did. -/
def countTellsSpec : ChangeSpec := { name := "countTells", fn := fun _ => fun
  | [d1, d2, d3] => { results := [.lit (.bool true)], args := [d1, d2, d3] }
  | _ => none }
def countTellsRow : OpenClaim := { program := "ytbmcpeccofadhaadoor", sum := "9806435c5690cfe7784e83e6e8b9679f0ba15e3b113fe89f413960bbcde1aaed", func := "almanacker/almanackerlaw27.CountTells", spec := "countTells", inPlace := ["math/bits.Add64"], unfollowed := true, recurses := true, named := ["almanacker/keviah.types", "almanacker/month.lengths"], apart := false, laid := [("almanacker/keviah.types", laid_almanacker_keviah_types), ("almanacker/month.lengths", laid_almanacker_month_lengths)] }
def CountTellsSaid : Prop := countTellsRow.holds Tryd.pinned (OpenSpec.ofChange countTellsSpec)

/-- ITS FALSE NEIGHBOUR: 'it returns false'. Refute it at one input. -/
def countTellsWrong : ChangeSpec := { name := "countTells", fn := fun _ => fun
  | [d1, d2, d3] => { results := [.lit (.bool false)], args := [d1, d2, d3] }
  | _ => none }
def CountTellsWrongFalsely : Prop := countTellsRow.holds Tryd.pinned (OpenSpec.ofChange countTellsWrong)

/-- 'almanackerlaw27.CountDays': WHATEVER THE INPUT: true; the input reads as it did. -/
def countDaysSpec : ChangeSpec := { name := "countDays", fn := fun _ => fun
  | [d1, d2] => { results := [.lit (.bool true)], args := [d1, d2] }
  | _ => none }
def countDaysRow : OpenClaim := { program := "ytbmcpeccofadhaadoor", sum := "9806435c5690cfe7784e83e6e8b9679f0ba15e3b113fe89f413960bbcde1aaed", func := "almanacker/almanackerlaw27.CountDays", spec := "countDays", inPlace := ["math/bits.Add64"], unfollowed := true, recurses := true, named := ["almanacker/keviah.types", "almanacker/month.lengths"], apart := false, laid := [("almanacker/keviah.types", laid_almanacker_keviah_types), ("almanacker/month.lengths", laid_almanacker_month_lengths)] }
def CountDaysSaid : Prop := countDaysRow.holds Tryd.pinned (OpenSpec.ofChange countDaysSpec)

/-- ITS FALSE NEIGHBOUR: 'it returns false'. Refute it at one input. -/
def countDaysWrong : ChangeSpec := { name := "countDays", fn := fun _ => fun
  | [d1, d2] => { results := [.lit (.bool false)], args := [d1, d2] }
  | _ => none }
def CountDaysWrongFalsely : Prop := countDaysRow.holds Tryd.pinned (OpenSpec.ofChange countDaysWrong)

/- THE SECOND FORM. 'bulk': how many values and letters a reading holds, each counted each time it is reached (what is shared counts as often as it is met; a slice's spare places count too). A statement '..UptoSaid' is the law's where the arguments, and the package variables that the reading takes, are together of bulk at most 1048576: NARROWER than '..Said'. Prove '..Said' where nothing that the law and all that it calls make is longer than what came in: it says more and counts as full. Else prove '..UptoSaid'. A law counts once. -/
mutual
def uptoBulk {H : Type} : DataW H → Nat
  | .lit (.string bytes) => bytes.length + 1
  | .lit _ => 1
  | .nil => 1
  | .ptr d => uptoBulk d + 1
  | .slice elems spare => uptoBulkAll elems + uptoBulkAll spare + 1
  | .agg parts => uptoBulkAll parts + 1
  | .iface _ d => uptoBulk d + 1
  | .map entries => uptoBulkEntries entries + 1
  | .held _ => 1
def uptoBulkAll {H : Type} : List (DataW H) → Nat
  | [] => 0
  | d :: r => uptoBulk d + uptoBulkAll r
def uptoBulkEntries {H : Type} : List (Lit × DataW H) → Nat
  | [] => 0
  | x :: r => uptoBulkEntry x + uptoBulkEntries r
def uptoBulkEntry {H : Type} : Lit × DataW H → Nat
  | (.string bytes, d) => bytes.length + uptoBulk d + 1
  | (_, d) => uptoBulk d + 1
 end
def uptoSmall : (H : Type) → List (DataW H) → Bool := fun _ ds => decide (uptoBulkAll ds ≤ 1048576)
def OpenSpec.upto (s : _root_.Go.ChangeSpec) : _root_.Go.OpenSpec := { _root_.Go.OpenSpec.ofChange s with cond := some uptoSmall }

/-- 'almanackerlaw22.SpecialDays', WHERE WHAT IT READS IS OF BULK AT MOST 1048576: true; the input reads as it did. -/
def specialDaysUptoRow : OpenClaim := { program := "ytbmcpeccofadhaadoor", sum := "9806435c5690cfe7784e83e6e8b9679f0ba15e3b113fe89f413960bbcde1aaed", func := "almanacker/almanackerlaw22.SpecialDays", spec := "specialDays", inPlace := ["math/bits.Add64"], unfollowed := true, recurses := true, named := ["almanacker/keviah.types", "almanacker/month.lengths"], apart := false, laid := [("almanacker/keviah.types", laid_almanacker_keviah_types), ("almanacker/month.lengths", laid_almanacker_month_lengths)], narrowed := true }
def SpecialDaysUptoSaid : Prop := specialDaysUptoRow.holds Tryd.pinned (OpenSpec.upto specialDaysSpec)

/-- 'almanackerlaw22.SpecialGaps', WHERE WHAT IT READS IS OF BULK AT MOST 1048576: true; the input reads as it did. -/
def specialGapsUptoRow : OpenClaim := { program := "ytbmcpeccofadhaadoor", sum := "9806435c5690cfe7784e83e6e8b9679f0ba15e3b113fe89f413960bbcde1aaed", func := "almanacker/almanackerlaw22.SpecialGaps", spec := "specialGaps", inPlace := ["math/bits.Add64"], unfollowed := true, recurses := true, named := ["almanacker/keviah.types", "almanacker/month.lengths"], apart := false, laid := [("almanacker/keviah.types", laid_almanacker_keviah_types), ("almanacker/month.lengths", laid_almanacker_month_lengths)], narrowed := true }
def SpecialGapsUptoSaid : Prop := specialGapsUptoRow.holds Tryd.pinned (OpenSpec.upto specialGapsSpec)

/-- 'almanackerlaw27.CountTells', WHERE WHAT IT READS IS OF BULK AT MOST 1048576: true; the input reads as it did. -/
def countTellsUptoRow : OpenClaim := { program := "ytbmcpeccofadhaadoor", sum := "9806435c5690cfe7784e83e6e8b9679f0ba15e3b113fe89f413960bbcde1aaed", func := "almanacker/almanackerlaw27.CountTells", spec := "countTells", inPlace := ["math/bits.Add64"], unfollowed := true, recurses := true, named := ["almanacker/keviah.types", "almanacker/month.lengths"], apart := false, laid := [("almanacker/keviah.types", laid_almanacker_keviah_types), ("almanacker/month.lengths", laid_almanacker_month_lengths)], narrowed := true }
def CountTellsUptoSaid : Prop := countTellsUptoRow.holds Tryd.pinned (OpenSpec.upto countTellsSpec)

/-- 'almanackerlaw27.CountDays', WHERE WHAT IT READS IS OF BULK AT MOST 1048576: true; the input reads as it did. -/
def countDaysUptoRow : OpenClaim := { program := "ytbmcpeccofadhaadoor", sum := "9806435c5690cfe7784e83e6e8b9679f0ba15e3b113fe89f413960bbcde1aaed", func := "almanacker/almanackerlaw27.CountDays", spec := "countDays", inPlace := ["math/bits.Add64"], unfollowed := true, recurses := true, named := ["almanacker/keviah.types", "almanacker/month.lengths"], apart := false, laid := [("almanacker/keviah.types", laid_almanacker_keviah_types), ("almanacker/month.lengths", laid_almanacker_month_lengths)], narrowed := true }
def CountDaysUptoSaid : Prop := countDaysUptoRow.holds Tryd.pinned (OpenSpec.upto countDaysSpec)

end Rows
end Go.Proofs.YtbmcpeccofadhaaDoor
